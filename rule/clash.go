package rule

import (
	"slices"

	"ullage/api"
)

// clashing returns the least values with which two rules both bind, if they clash: false if they do not. The outcomes are those of all cells on a day.
func clashing(all []outcome, i, j int) ([]int, bool) {
	var values []int
	found := false
	for _, o := range all {
		if !o.binds[i] || !o.binds[j] {
			continue
		}
		if o.kept[i] && o.kept[j] {
			return nil, false
		}
		if !found {
			values, found = o.values, true
		}
	}
	return values, found
}

// everyDay has the outcomes of all cells for each of the days.
func (l laws) everyDay(days []int) [][]outcome {
	truths := slices.Collect(l.truths(l.code.Facts))
	var all [][]outcome
	for _, day := range days {
		var list []outcome
		for _, t := range truths {
			list = append(list, l.on(day, t))
		}
		all = append(all, list)
	}
	return all
}

// Clashes returns the pairs of rules that clash.
func Clashes(c api.Code) ([]api.Clash, api.Errno) {
	if e := Check(c); e != api.OK {
		return nil, e
	}
	days := daysOf(c)
	all := lawsOf(c).everyDay(days)
	var l []api.Clash
	for i := range c.Rules {
		for j := i + 1; j < len(c.Rules); j++ {
			for d, day := range days {
				if values, ok := clashing(all[d], i, j); ok {
					l = append(l, api.Clash{I: i, J: j, Day: day, Values: slices.Clone(values)})
					break
				}
			}
		}
	}
	return l, api.OK
}

// hasValues reports whether these are values of the facts.
func (l laws) hasValues(values []int) bool {
	if len(values) != len(l.code.Facts) {
		return false
	}
	for i, f := range l.code.Facts {
		if !within(one(values[i]), f.Value) {
			return false
		}
	}
	return true
}

// CheckClash reports whether two rules clash as it is told.
func CheckClash(c api.Code, x api.Clash) api.Errno {
	if e := Check(c); e != api.OK {
		return e
	}
	l := lawsOf(c)
	if x.I < 0 || x.I >= x.J || x.J >= len(c.Rules) || !isDay(x.Day) || !l.hasValues(x.Values) {
		return api.ErrRule
	}
	o := l.on(x.Day, l.truthOf(x.Values))
	_, clash := clashing(slices.Collect(l.outcomes(x.Day, c.Facts)), x.I, x.J)
	if !clash || !o.binds[x.I] || !o.binds[x.J] {
		return api.ErrRule
	}
	return api.OK
}
