package cond

import (
	"ullage/api"
	"ullage/fix"
)

// first is the first place, from the first of some points of a table to the last one, at which so holds; false if there is none. The table is straight between the points, so that so holds between two of them only if it holds at one of them.
func first(t api.Table, points []api.Point, so func(r api.Range) bool) (int, bool) {
	x, found := 0, false
search:
	for i, p := range points {
		if i == 0 {
			x = p.X
		}
		if !so(bounds(p)) {
			x = p.X + 1
			continue
		}
		for ; x <= p.X; x++ {
			if so(at(t, x)) {
				found = true
				break search
			}
		}
	}
	return x, found
}

// heelOf is from the first angle at which a margin may be 0 or more to the first one at which it surely is.
func heelOf(margin api.Table) (api.Range, api.Errno) {
	to, found := first(margin, margin.Points, func(r api.Range) bool { return r.Lo >= 0 })
	if !found {
		return api.Range{}, api.ErrNone
	}
	from, _ := first(margin, margin.Points, func(r api.Range) bool { return r.Hi >= 0 })
	return api.Range{Lo: from, Hi: to}, api.OK
}

// heel has the angles at which she may come to rest.
func (c state) heel() (api.Range, api.Errno) {
	margin, e := c.margin()
	if e != api.OK {
		return api.Range{}, e
	}
	return heelOf(margin)
}

// end is the angle up to which area counts.
func (c state) end(most int) (int, api.Errno) {
	flood, e := c.over(vessel.flood)
	if e != api.OK {
		return 0, e
	}
	return min(most, flood.Lo, c.ship.angles().Hi), api.OK
}

// rest are the angles that are left behind the heel, with the margin.
type rest struct {
	margin api.Table
	angles api.Range
}

// restOf returns the rest; ErrNone if it has no angle.
func restOf(s api.Ship, l api.Load, most int) (rest, api.Errno) {
	c, e := stateUpTo(s, l, most)
	if e != api.OK {
		return rest{}, e
	}
	margin, e := c.margin()
	if e != api.OK {
		return rest{}, e
	}
	heel, e := heelOf(margin)
	if e != api.OK {
		return rest{}, e
	}
	end, e := c.end(most)
	if e != api.OK {
		return rest{}, e
	}
	if end < heel.Hi {
		return rest{}, api.ErrNone
	}
	return rest{margin, api.Range{Lo: heel.Hi, Hi: end}}, api.OK
}

// wideRest returns the rest; ErrNone if it has less than two angles, and so no area.
func wideRest(s api.Ship, l api.Load, most int) (rest, api.Errno) {
	r, e := restOf(s, l, most)
	if e != api.OK {
		return rest{}, e
	}
	if r.angles.Lo == r.angles.Hi {
		return rest{}, api.ErrNone
	}
	return r, api.OK
}

// part is the part of the margin over the rest.
func (r rest) part() []api.Point {
	t, _ := fix.Cut(r.margin, r.angles.Lo, r.angles.Hi)
	return t.Points
}

// areaOf is the range of twice the area below a curve within a table over some places.
func areaOf(t api.Table, r api.Range) (api.Range, api.Errno) {
	lo, hi, e := fix.Area(t, r.Lo, r.Hi)
	return api.Range{Lo: lo, Hi: hi}, e
}

// Heel returns the angles at which she may come to rest.
func Heel(s api.Ship, l api.Load) (api.Range, api.Errno) { return tell(s, l, state.heel) }

// End returns the angle up to which area counts.
func End(s api.Ship, l api.Load, most int) (int, api.Errno) {
	c, e := stateUpTo(s, l, most)
	if e != api.OK {
		return 0, e
	}
	return c.end(most)
}

// Rest returns twice the area of the margin that is left.
func Rest(s api.Ship, l api.Load, most int) (api.Range, api.Errno) {
	r, e := wideRest(s, l, most)
	if e != api.OK {
		return api.Range{}, e
	}
	return areaOf(r.margin, r.angles)
}

// Weakest returns the angle at which the margin may be least.
func Weakest(s api.Ship, l api.Load, most int) (int, api.Range, api.Errno) {
	r, e := restOf(s, l, most)
	if e != api.OK {
		return 0, api.Range{}, e
	}
	all, _ := fix.Over(r.margin, r.angles)
	x, _ := first(r.margin, r.part(), func(v api.Range) bool { return v.Lo == all.Lo })
	return x, at(r.margin, x), api.OK
}
