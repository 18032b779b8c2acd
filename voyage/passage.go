package voyage

import (
	"cmp"

	"ullage/api"
	"ullage/fix"
)

// mostMass is the greatest mass that there may be at the beginning.
const mostMass = 10 * api.MaxLevel

// isPassage reports whether a passage is valid.
func isPassage(p api.Passage) bool {
	return isUpTo(p.Hours, api.MaxHours) && isUpTo(p.Burn, api.MaxBurn)
}

// Check reports whether passages are valid.
func Check(l []api.Passage) api.Errno {
	return checkList(l, api.MaxPassages, isPassage, api.ErrPassage)
}

// checkMass reports whether so much may be there at the beginning.
func checkMass(mass api.Range) api.Errno { return unless(isUpTo(mass, mostMass), api.ErrLevels) }

// checkReserve reports whether so much may be asked for.
func checkReserve(reserve int) api.Errno {
	return unless(isBetween(reserve, 0, api.MaxLevel), api.ErrArg)
}

// course has valid passages, one after the other. Their limits keep all that is told of them far below those of ranges.
type course []api.Passage

// hours is how long a passage takes.
func (c course) hours(i int) api.Range { return c[i].Hours }

// burnt is what is burnt in a passage.
func (c course) burnt(i int) api.Range {
	r, _ := fix.Mul(c[i].Hours, c[i].Burn)
	return r
}

// sums returns what is told of the passages, added up: of none, of the first one, of the first two, and so on to all.
func (c course) sums(told func(i int) api.Range) []api.Range {
	all := []api.Range{{}}
	for i := range c {
		sum, _ := fix.Add(all[i], told(i))
		all = append(all, sum)
	}
	return all
}

// total is what is told of all passages together, if they are valid.
func (c course) total(told func(i int) api.Range) (api.Range, api.Errno) {
	if e := Check(c); e != api.OK {
		return api.Range{}, e
	}
	return c.sums(told)[len(c)], api.OK
}

// Hours is the range of the hours of passages.
func Hours(l []api.Passage) (api.Range, api.Errno) {
	c := course(l)
	return c.total(c.hours)
}

// Burnt is the range of what is burnt in passages.
func Burnt(l []api.Passage) (api.Range, api.Errno) {
	c := course(l)
	return c.total(c.burnt)
}

// Left returns what is left behind each passage.
func Left(mass api.Range, l []api.Passage) ([]api.Range, api.Errno) {
	if e := cmp.Or(Check(l), checkMass(mass)); e != api.OK {
		return nil, e
	}
	c := course(l)
	var left []api.Range
	for _, burnt := range c.sums(c.burnt)[1:] {
		r, _ := fix.Sub(mass, burnt)
		left = append(left, api.Range{Lo: max(0, r.Lo), Hi: max(0, r.Hi)})
	}
	return left, api.OK
}

// Enough answers whether at least a reserve is left behind all passages.
func Enough(mass api.Range, l []api.Passage, reserve int) (int, api.Errno) {
	burnt, e := Burnt(l)
	if e = cmp.Or(e, checkMass(mass), checkReserve(reserve)); e != api.OK {
		return 0, e
	}
	// What is burnt beyond the mass is not left out here, as in Left: where it runs out it is not enough, even with the reserve 0.
	rest, _ := fix.Sub(mass, burnt)
	switch {
	case rest.Lo >= reserve:
		return api.Yes, api.OK
	case rest.Hi < reserve:
		return api.No, api.OK
	}
	return api.Maybe, api.OK
}

// Need is the least mass that surely is enough.
func Need(l []api.Passage, reserve int) (int, api.Errno) {
	burnt, e := Burnt(l)
	if e = cmp.Or(e, checkReserve(reserve)); e != api.OK {
		return 0, e
	}
	return burnt.Hi + reserve, api.OK
}

// mayBeIn reports whether an hour may be one of a passage, by the hours ahead of it and its own.
func mayBeIn(ahead, own api.Range, hour int) bool {
	// The passage reaches farthest if it begins as late as it may, but not behind the hour.
	return ahead.Lo <= hour && hour < min(ahead.Hi, hour)+own.Hi
}

// Where is the range of the passages in which the ship may be at an hour.
func Where(l []api.Passage, hour int) (api.Range, api.Errno) {
	inTime := unless(isBetween(hour, 0, api.MaxPassages*api.MaxHours), api.ErrArg)
	if e := cmp.Or(Check(l), inTime); e != api.OK {
		return api.Range{}, e
	}
	c := course(l)
	ahead := c.sums(c.hours)
	found := false
	var all api.Range
	for i, p := range l {
		if !mayBeIn(ahead[i], p.Hours, hour) {
			continue
		}
		if !found {
			all.Lo = i
		}
		all.Hi, found = i, true
	}
	return all, unless(found, api.ErrNone)
}
