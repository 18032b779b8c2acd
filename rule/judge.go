package rule

import (
	"cmp"
	"iter"
	"slices"

	"ullage/api"
)

// join is Yes or No if all answers are, and otherwise Maybe.
func join(first int, others ...int) int {
	for _, a := range others {
		if a != first {
			return api.Maybe
		}
	}
	return first
}

// yesOrNo is the answer where all is known.
func yesOrNo(so bool) int {
	if so {
		return api.Yes
	}
	return api.No
}

// answer joins the answers for each of some cases, of which there is at least one.
func answer[T any](all iter.Seq[T], so func(x T) bool) int {
	var answers []int
	for x := range all {
		answers = append(answers, yesOrNo(so(x)))
	}
	return join(answers[0], answers[1:]...)
}

// Holds answers whether a condition is so, for facts in ranges.
func Holds(f []api.Fact, c api.Cond) (int, api.Errno) {
	if len(f) > api.MaxFacts {
		return 0, api.ErrLong
	}
	if checkFacts(f) != api.OK {
		return 0, api.ErrFact
	}
	if e := CheckCond(f, c); e != api.OK {
		return 0, e
	}
	cuts := cutsOf(f, []api.Cond{c})
	if tooMany(cuts) {
		return 0, api.ErrLong
	}
	return answer(cells(cuts), formulaOf(c, f, senses()).so), api.OK
}

// Binds answers whether a rule binds on a day, for facts in ranges.
func Binds(c api.Code, rule, day int, f []api.Fact) (int, api.Errno) {
	if e := cmp.Or(Check(c), checkWhich(c, rule), checkDay(day), checkFactsFor(c, f)); e != api.OK {
		return 0, e
	}
	return answer(lawsOf(c).outcomes(day, f), func(o outcome) bool { return o.binds[rule] }), api.OK
}

// Judge tells of each rule whether it binds, and whether it is kept.
func Judge(c api.Code, day int, f []api.Fact) ([]api.Verdict, api.Errno) {
	rules, e := readyFor(c, day, f)
	if e != api.OK {
		return nil, e
	}
	all := slices.Collect(rules.outcomes(day, f))
	var l []api.Verdict
	for i := range c.Rules {
		l = append(l, api.Verdict{
			Rule:  i,
			Binds: answer(slices.Values(all), func(o outcome) bool { return o.binds[i] }),
			Kept:  answer(slices.Values(all), func(o outcome) bool { return o.kept[i] }),
		})
	}
	return l, api.OK
}

// Kept answers whether all rules are kept.
func Kept(c api.Code, day int, f []api.Fact) (int, api.Errno) {
	l, e := readyFor(c, day, f)
	if e != api.OK {
		return 0, e
	}
	return l.kept(day, f), api.OK
}

// Breaks returns values of the facts with which some rule is broken, and which one.
func Breaks(c api.Code, day int, f []api.Fact) (int, []int, api.Errno) {
	l, e := readyFor(c, day, f)
	if e != api.OK {
		return 0, nil, e
	}
	// The first cell in which a rule is broken begins with the least values of all such cells.
	for o := range l.outcomes(day, f) {
		if i := l.broken(o); i >= 0 {
			return i, o.values, api.OK
		}
	}
	return 0, nil, api.ErrNone
}
