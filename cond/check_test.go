package cond_test

import (
	"math"
	"testing"

	"ullage/api"
	"ullage/cond"
)

// badSpans are no ranges of numbers from lo to hi.
func badSpans(lo, hi int) []api.Range {
	return []api.Range{span(lo-1, hi), span(lo, hi+1), span(lo-1, lo-1), span(hi+1, hi+1), span(hi, hi-1), span(lo+1, lo), span(math.MinInt, math.MaxInt), span(math.MaxInt, math.MinInt), span(math.MinInt, math.MinInt), span(math.MaxInt, math.MaxInt)}
}

// badTables are no tables over places up to last, with values from lo to hi.
func badTables(last, lo, hi int) []api.Table {
	long := api.Table{}
	for i := range api.MaxPoints + 1 {
		long.Points = append(long.Points, api.Point{X: i, Lo: lo, Hi: hi})
	}
	l := []api.Table{{}, {Points: []api.Point{}}, long,
		tableOf([3]int{-1, lo, hi}, [3]int{9, lo, hi}), tableOf([3]int{0, lo, hi}, [3]int{last + 1, lo, hi}), tableOf([3]int{last + 1, lo, hi}),
		tableOf([3]int{3, lo, hi}, [3]int{3, lo, hi}), tableOf([3]int{0, lo, hi}, [3]int{5, lo, hi}, [3]int{4, lo, hi}),
		tableOf([3]int{math.MinInt, lo, hi}), tableOf([3]int{math.MaxInt, lo, hi})}
	for _, r := range badSpans(lo, hi) {
		l = append(l, flat(0, last, r), tableOf([3]int{0, r.Lo, r.Hi}, [3]int{1, lo, hi}, [3]int{last, lo, hi}), tableOf([3]int{0, lo, hi}, [3]int{last, r.Lo, r.Hi}))
	}
	return l
}

// limit is a table of a ship, with its greatest place and its values.
type limit struct {
	find         func(s *api.Ship) *api.Table
	last, lo, hi int
}

func limits() []limit {
	p, y := api.MaxPlace, api.MaxY
	return []limit{
		{func(s *api.Ship) *api.Table { return &s.Drafts }, api.MaxX, -y, y},
		{func(s *api.Ship) *api.Table { return &s.Heights }, api.MaxX, 0, p},
		{func(s *api.Ship) *api.Table { return &s.Centres }, api.MaxX, -p, p},
		{func(s *api.Ship) *api.Table { return &s.Trims }, api.MaxX, 1, y},
		{func(s *api.Ship) *api.Table { return &s.Flood }, api.MaxX, 0, y},
		{func(s *api.Ship) *api.Table { return &s.Sine }, api.MaxAngle, 0, 1000000},
		{func(s *api.Ship) *api.Table { return &s.Shift }, api.MaxAngle, 0, 10000},
		{func(s *api.Ship) *api.Table { return &s.Cross[0].Arms }, api.MaxAngle, -p, p},
		{func(s *api.Ship) *api.Table { return &s.Cross[1].Arms }, api.MaxAngle, -p, p},
	}
}

// changed is a copy of the example's ship with one change.
func changed(do func(s *api.Ship)) api.Ship {
	s := exampleS()
	do(&s)
	return s
}

// crossAt has flat curves at displacements.
func crossAt(tonnes ...int) []api.Cross {
	var l []api.Cross
	for _, n := range tonnes {
		l = append(l, api.Cross{Tonnes: n, Arms: flat(0, 800, one(5))})
	}
	return l
}

// badWeights are not valid.
func badWeights() []api.Weight {
	good := exampleL().Weights[0]
	var l []api.Weight
	for _, r := range badSpans(0, api.MaxKilos) {
		l = append(l, api.Weight{Mass: r, Along: good.Along, High: good.High})
	}
	for _, r := range badSpans(-api.MaxPlace, api.MaxPlace) {
		l = append(l, api.Weight{Mass: good.Mass, Along: r, High: good.High})
	}
	for _, r := range badSpans(0, api.MaxPlace) {
		l = append(l, api.Weight{Mass: good.Mass, Along: good.Along, High: r})
	}
	return l
}

// badShips are copies of the example's ship of which one thing is no more as it must be.
func badShips() []api.Ship {
	l := []api.Ship{{}, changed(func(s *api.Ship) { s.Cross = nil }), changed(func(s *api.Ship) { s.Cross = []api.Cross{} })}
	for _, n := range []int{0, -1, api.MaxPlace + 1, math.MinInt, math.MaxInt} {
		l = append(l, changed(func(s *api.Ship) { s.Length = n }))
	}
	for _, k := range limits() {
		for _, t := range badTables(k.last, k.lo, k.hi) {
			l = append(l, changed(func(s *api.Ship) { *k.find(s) = t }))
		}
	}
	for _, c := range [][]int{{-1, 5}, {0, api.MaxX + 1}, {5, 5}, {5, 4}, {1, 9, 8}, {math.MinInt}, {math.MaxInt}, {0, 1, 2, 3, 4, 5, 6, 7, 8, 9, 10, 11, 12}} {
		l = append(l, changed(func(s *api.Ship) { s.Cross = crossAt(c...) }))
	}
	for _, w := range badWeights() {
		l = append(l, changed(func(s *api.Ship) { s.Light = w }))
	}
	for _, r := range []api.Range{one(999), span(999, 1000), span(0, api.MaxKilos), span(-5, 2000)} {
		l = append(l, changed(func(s *api.Ship) { s.Light.Mass = r }))
	}
	return append(l, stiffShips()...)
}

// stiffShips have no angle.
func stiffShips() []api.Ship {
	return []api.Ship{
		changed(func(s *api.Ship) { s.Sine = flat(801, 900, one(7)) }),
		changed(func(s *api.Ship) { s.Shift = flat(801, 900, one(7)) }),
		changed(func(s *api.Ship) { s.Cross[0].Arms = flat(801, 900, one(7)) }),
		changed(func(s *api.Ship) { s.Cross[1].Arms = flat(801, 900, one(7)) }),
		changed(func(s *api.Ship) { s.Sine, s.Shift = flat(0, 10, one(7)), flat(11, 20, one(7)) }),
		changed(func(s *api.Ship) { s.Cross[0].Arms, s.Cross[1].Arms = flat(0, 10, one(7)), flat(11, 800, one(7)) }),
	}
}

// badLoads are copies of the example's load of which one thing is no more as it must be.
func badLoads() []api.Load {
	var l []api.Load
	for _, w := range badWeights() {
		l = append(l, api.Load{Weights: []api.Weight{w}}, api.Load{Weights: append(exampleL().Weights, w)})
	}
	for _, r := range badSpans(0, api.MaxMoment) {
		l = append(l, api.Load{Surface: r}, api.Load{Shift: r})
	}
	return append(l, api.Load{Weights: make([]api.Weight, api.MaxWeights+1)})
}

func TestCheckShip(t *testing.T) {
	good := []api.Ship{exampleS(), greatS(),
		changed(func(s *api.Ship) { s.Length = 1 }),
		changed(func(s *api.Ship) { s.Cross = crossAt(0) }),
		changed(func(s *api.Ship) { s.Cross = crossAt(0, api.MaxX) }),
		changed(func(s *api.Ship) { s.Cross = crossAt(0, 1, 2, 3, 4, 5, 6, 7, 8, 9, 10, 11) }),
		changed(func(s *api.Ship) { s.Light.Mass = one(1000) }),
		changed(func(s *api.Ship) { s.Light.Mass = one(api.MaxKilos) }),
		changed(func(s *api.Ship) { s.Sine = flat(800, 900, one(7)) }),
		changed(func(s *api.Ship) { s.Sine, s.Shift = flat(0, 11, one(7)), flat(11, 20, one(7)) }),
		changed(func(s *api.Ship) { s.Sine = exactly(17, 0) }),
	}
	for _, k := range limits() {
		for _, v := range []api.Range{one(k.lo), one(k.hi), span(k.lo, k.hi)} {
			good = append(good, changed(func(s *api.Ship) { *k.find(s) = flat(0, k.last, v) }))
		}
		good = append(good, changed(func(s *api.Ship) { *k.find(s) = tableOf([3]int{400, k.lo, k.hi}) }))
	}
	for _, s := range good {
		if e := cond.CheckShip(s); e != api.OK {
			t.Errorf("CheckShip(%v) = %d", s, e)
		}
	}
	for _, s := range badShips() {
		if e := cond.CheckShip(s); e != api.ErrShip {
			t.Errorf("CheckShip(%v) = %d", s, e)
		}
	}
}

func TestCheckWeight(t *testing.T) {
	p := api.MaxPlace
	for _, w := range []api.Weight{{}, exampleS().Light, {Mass: one(api.MaxKilos), Along: one(p), High: one(p)}, {Mass: span(0, api.MaxKilos), Along: span(-p, p), High: span(0, p)}, {Along: one(-p)}} {
		if e := cond.CheckWeight(w); e != api.OK {
			t.Errorf("CheckWeight(%v) = %d", w, e)
		}
	}
	for _, w := range badWeights() {
		if e := cond.CheckWeight(w); e != api.ErrWeight {
			t.Errorf("CheckWeight(%v) = %d", w, e)
		}
	}
}

func TestCheckLoad(t *testing.T) {
	m := api.MaxMoment
	for _, l := range []api.Load{{}, {Weights: []api.Weight{}}, exampleL(), {Weights: make([]api.Weight, api.MaxWeights)}, {Surface: one(m), Shift: one(m)}, {Surface: span(0, m), Shift: span(0, m)}} {
		if e := cond.CheckLoad(l); e != api.OK {
			t.Errorf("CheckLoad(%v) = %d", l, e)
		}
	}
	for _, l := range badLoads() {
		if e := cond.CheckLoad(l); e != api.ErrLoad {
			t.Errorf("CheckLoad(%v) = %d", l, e)
		}
	}
}

// call is a function that has a ship and a load among its arguments; do tells whether all results but the error are zero.
type call struct {
	name string
	most bool // it has most, too
	do   func(s api.Ship, l api.Load, most int) (zero bool, e api.Errno)
}

func ofRange(f func(api.Ship, api.Load) (api.Range, api.Errno)) func(api.Ship, api.Load, int) (bool, api.Errno) {
	return func(s api.Ship, l api.Load, most int) (bool, api.Errno) {
		r, e := f(s, l)
		return r == api.Range{}, e
	}
}

func ofTable(f func(api.Ship, api.Load) (api.Table, api.Errno)) func(api.Ship, api.Load, int) (bool, api.Errno) {
	return func(s api.Ship, l api.Load, most int) (bool, api.Errno) {
		t, e := f(s, l)
		return len(t.Points) == 0, e
	}
}

func calls() []call {
	return []call{
		{"Total", false, func(s api.Ship, l api.Load, most int) (bool, api.Errno) {
			w, e := cond.Total(s, l)
			return w == api.Weight{}, e
		}},
		{"Tonnes", false, ofRange(cond.Tonnes)}, {"Draft", false, ofRange(cond.Draft)}, {"Trim", false, ofRange(cond.Trim)}, {"Metric", false, ofRange(cond.Metric)}, {"Heel", false, ofRange(cond.Heel)},
		{"Ends", false, func(s api.Ship, l api.Load, most int) (bool, api.Errno) {
			f, a, e := cond.Ends(s, l)
			return f == api.Range{} && a == api.Range{}, e
		}},
		{"Righting", false, ofTable(cond.Righting)}, {"Heeling", false, ofTable(cond.Heeling)}, {"Margin", false, ofTable(cond.Margin)},
		{"End", true, func(s api.Ship, l api.Load, most int) (bool, api.Errno) {
			n, e := cond.End(s, l, most)
			return n == 0, e
		}},
		{"Rest", true, func(s api.Ship, l api.Load, most int) (bool, api.Errno) {
			r, e := cond.Rest(s, l, most)
			return r == api.Range{}, e
		}},
		{"Weakest", true, func(s api.Ship, l api.Load, most int) (bool, api.Errno) {
			x, r, e := cond.Weakest(s, l, most)
			return x == 0 && r == api.Range{}, e
		}},
		{"Prove", true, func(s api.Ship, l api.Load, most int) (bool, api.Errno) {
			c, e := cond.Prove(s, l, most, api.MaxNeed+1)
			return len(c.Points) == 0, e
		}},
		{"Check", true, func(s api.Ship, l api.Load, most int) (bool, api.Errno) {
			return true, cond.Check(s, l, most, api.MaxNeed+1, api.Cert{})
		}},
		{"Facts", true, func(s api.Ship, l api.Load, most int) (bool, api.Errno) {
			f, e := cond.Facts(s, l, most)
			return len(f) == 0, e
		}},
	}
}

// TestOrderOfErrors: the ship, then the load, then most, whatever else is wrong.
func TestOrderOfErrors(t *testing.T) {
	heavy := api.Load{Weights: []api.Weight{{Mass: one(api.MaxKilos)}}} // outside of all tables
	badMost := []int{-1, api.MaxAngle + 1, math.MinInt, math.MaxInt}
	for _, c := range calls() {
		expectNo := func(what string, s api.Ship, l api.Load, most int, want api.Errno) {
			t.Helper()
			if zero, e := c.do(s, l, most); !zero || e != want {
				t.Errorf("%s, %s: %d, want %d (no other result: %v)", c.name, what, e, want, zero)
			}
		}
		for i, s := range badShips() {
			expectNo("bad ship", s, exampleL(), 400, api.ErrShip)
			expectNo("bad ship and load", s, badLoads()[i%len(badLoads())], 400, api.ErrShip)
			expectNo("bad ship and most", s, heavy, badMost[i%len(badMost)], api.ErrShip)
		}
		for i, l := range badLoads() {
			expectNo("bad load", exampleS(), l, 400, api.ErrLoad)
			expectNo("bad load and most", exampleS(), l, badMost[i%len(badMost)], api.ErrLoad)
		}
		for _, most := range badMost {
			if c.most {
				expectNo("bad most", exampleS(), exampleL(), most, api.ErrArg)
				expectNo("bad most, heavy load", exampleS(), heavy, most, api.ErrArg)
			}
		}
	}
}
