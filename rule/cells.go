package rule

import (
	"cmp"
	"iter"
	"slices"

	"ullage/api"
)

// conditions returns the When and the Must of each rule of a code.
func conditions(c api.Code) []api.Cond {
	var l []api.Cond
	for _, r := range c.Rules {
		l = append(l, r.When, r.Must)
	}
	return l
}

// parts are the numbers at which a comparison parts whole numbers.
func parts(t api.Term) []int {
	switch t.Kind {
	case api.TmLess:
		return []int{t.Num}
	case api.TmMost:
		return []int{t.Num + 1}
	case api.TmIs:
		return []int{t.Num, t.Num + 1}
	}
	return nil
}

// cutsOfFact returns the cuts of a fact by valid conditions. (All their terms count, those that the last one does not use too.)
func cutsOfFact(f api.Fact, conds []api.Cond) []int {
	cuts := []int{f.Value.Lo}
	for _, c := range conds {
		for _, t := range c.Terms {
			if t.Name != f.Name {
				continue
			}
			for _, n := range parts(t) {
				if within(one(n), f.Value) {
					cuts = append(cuts, n)
				}
			}
		}
	}
	slices.Sort(cuts)
	return slices.Compact(cuts)
}

// cutsOf returns the cuts of each fact by valid conditions.
func cutsOf(facts []api.Fact, conds []api.Cond) [][]int {
	var all [][]int
	for _, f := range facts {
		all = append(all, cutsOfFact(f, conds))
	}
	return all
}

// tooMany reports whether cuts make more than MaxCells cells.
func tooMany(cuts [][]int) bool {
	n := 1
	for _, l := range cuts {
		n *= len(l)
		// The product of all could be too great for an int.
		if n > api.MaxCells {
			return true
		}
	}
	return false
}

// cells yields the least values of each cell, in the order of lists. Each list is new.
func cells(cuts [][]int) iter.Seq[[]int] {
	return func(yield func([]int) bool) { extend(make([]int, 0, len(cuts)), cuts, yield) }
}

// extend yields all values that begin with these, and go on with cuts; false if no more are wanted.
func extend(values []int, cuts [][]int, yield func([]int) bool) bool {
	if len(cuts) == 0 {
		return yield(slices.Clone(values))
	}
	for _, n := range cuts[0] {
		if !extend(append(values, n), cuts[1:], yield) {
			return false
		}
	}
	return true
}

// daysOf returns the days on which other rules of a valid code are in force than on the day ahead, and 0.
func daysOf(c api.Code) []int {
	days := []int{0}
	for _, r := range c.Rules {
		days = append(days, r.From)
		if r.To < api.MaxDay {
			days = append(days, r.To+1)
		}
	}
	slices.Sort(days)
	return slices.Compact(days)
}

// inForce reports whether a rule is in force on a day.
func inForce(r api.Rule, day int) bool { return r.From <= day && day <= r.To }

// InForce returns the rules that are in force on a day.
func InForce(c api.Code, day int) ([]int, api.Errno) {
	if e := cmp.Or(Check(c), checkDay(day)); e != api.OK {
		return nil, e
	}
	var l []int
	for i, r := range c.Rules {
		if inForce(r, day) {
			l = append(l, i)
		}
	}
	return l, api.OK
}

// Days returns the days on which rules begin, or have ended.
func Days(c api.Code) ([]int, api.Errno) {
	if e := Check(c); e != api.OK {
		return nil, e
	}
	return daysOf(c), api.OK
}

// Cells returns, of each fact, the first values of the runs in which no comparison changes.
func Cells(c api.Code) ([][]int, api.Errno) {
	if e := Check(c); e != api.OK {
		return nil, e
	}
	return cutsOf(c.Facts, conditions(c)), api.OK
}
