package rule

import (
	"slices"

	"ullage/api"
)

// instead returns facts of which one has another value.
func instead(f []api.Fact, i int, value api.Range) []api.Fact {
	g := slices.Clone(f)
	g[i].Value = value
	return g
}

// Rests returns the facts without which the answer of Kept would not be sure.
func Rests(c api.Code, day int, f []api.Fact) ([]string, api.Errno) {
	l, e := readyFor(c, day, f)
	if e != api.OK {
		return nil, e
	}
	kept := l.kept(day, f)
	var names []string
	for i, x := range c.Facts {
		if l.kept(day, instead(f, i, x.Value)) != kept {
			names = append(names, x.Name)
		}
	}
	return names, api.OK
}

// Allowed returns the values of a fact with which all rules are surely kept.
func Allowed(c api.Code, day int, f []api.Fact, name string) ([]api.Range, api.Errno) {
	l, e := readyFor(c, day, f)
	if e != api.OK {
		return nil, e
	}
	i := factAt(c.Facts, name)
	if i < 0 {
		return nil, api.ErrName
	}
	var runs []api.Range
	for _, r := range runsOf(f[i], l.conds) {
		if l.kept(day, instead(f, i, one(r.Lo))) == api.Yes {
			runs = appendRun(runs, r)
		}
	}
	return runs, api.OK
}

// runsOf returns the runs of a fact's values in which no comparison changes.
func runsOf(f api.Fact, conds []api.Cond) []api.Range {
	var runs []api.Range
	for i, n := range cutsOfFact(f, conds) {
		if i > 0 {
			runs[i-1].Hi = n - 1
		}
		runs = append(runs, api.Range{Lo: n, Hi: f.Value.Hi})
	}
	return runs
}

// appendRun adds a run behind others; it goes on with the last one if there is nothing in between.
func appendRun(runs []api.Range, r api.Range) []api.Range {
	if n := len(runs); n > 0 && runs[n-1].Hi+1 == r.Lo {
		runs[n-1].Hi = r.Hi
		return runs
	}
	return append(runs, r)
}
