package rule

import (
	"cmp"
	"slices"

	"ullage/api"
)

// alone reports whether a rule is broken, and all others are kept.
func (l laws) alone(rule int, o outcome) bool {
	for i := range l.list {
		if o.kept[i] == (i == rule) {
			return false
		}
	}
	return true
}

// witness returns the first case in which a rule alone is broken; false if there is none. The truths are those of all cells.
func (l laws) witness(rule int, truths []truth) (api.Case, bool) {
	var x api.Case
	found := false
search:
	for _, day := range daysOf(l.code) {
		for _, t := range truths {
			if l.alone(rule, l.on(day, t)) {
				x, found = api.Case{Day: day, Values: t.values}, true
				break search
			}
		}
	}
	return x, found
}

// Idle returns the rules that never demand anything that the others do not.
func Idle(c api.Code) ([]int, api.Errno) {
	if e := Check(c); e != api.OK {
		return nil, e
	}
	l := lawsOf(c)
	truths := slices.Collect(l.truths(c.Facts))
	var idle []int
	for i := range c.Rules {
		if _, found := l.witness(i, truths); !found {
			idle = append(idle, i)
		}
	}
	return idle, api.OK
}

// Witness returns a case in which a rule alone is broken.
func Witness(c api.Code, rule int) (api.Case, api.Errno) {
	if e := cmp.Or(Check(c), checkWhich(c, rule)); e != api.OK {
		return api.Case{}, e
	}
	l := lawsOf(c)
	x, found := l.witness(rule, slices.Collect(l.truths(c.Facts)))
	if !found {
		return api.Case{}, api.ErrNone
	}
	return x, api.OK
}

// CheckWitness reports whether a rule alone is broken in a case.
func CheckWitness(c api.Code, rule int, x api.Case) api.Errno {
	if e := cmp.Or(Check(c), checkWhich(c, rule)); e != api.OK {
		return e
	}
	l := lawsOf(c)
	if !isDay(x.Day) || !l.hasValues(x.Values) || !l.alone(rule, l.on(x.Day, l.truthOf(x.Values))) {
		return api.ErrRule
	}
	return api.OK
}
