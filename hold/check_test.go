package hold_test

import (
	"math"
	"math/rand"
	"testing"

	"ullage/api"
	"ullage/hold"
)

// badHolds are copies of exampleH of which one thing is no more as it must be.
func badHolds() []api.Hold {
	var l []api.Hold
	change := func(do func(h *api.Hold)) {
		h := exampleH()
		do(&h)
		l = append(l, h)
	}
	for _, id := range []int{0, -1, api.MaxHolds + 1, math.MaxInt, math.MinInt} {
		change(func(h *api.Hold) { h.Id = id })
	}
	for _, r := range badSpans(-api.MaxX, api.MaxX) {
		change(func(h *api.Hold) { h.Along = r })
	}
	for _, r := range badSpans(0, api.MaxY) {
		change(func(h *api.Hold) { h.Trimmed = r })
		change(func(h *api.Hold) { h.Untrimmed = r })
		change(func(h *api.Hold) { h.Volume0 = r })
		change(func(h *api.Hold) { h.Height0 = r })
	}
	for _, t := range badTables() {
		change(func(h *api.Hold) { h.Volume = t })
		change(func(h *api.Hold) { h.Moment = t })
		change(func(h *api.Hold) { h.Height = t })
	}
	for _, t := range []api.Table{
		tableOf([3]int{0, 5, 9}, [3]int{100, 6, 9}), tableOf([3]int{0, 5, 9}, [3]int{100, 5, 10}), line(100, 300),
		tableOf([3]int{0, 9, 9}, [3]int{50, 1, 1}, [3]int{51, 2, 2}, [3]int{100, 0, 0}),
		tableOf([3]int{0, 9, 9}, [3]int{50, 1, 2}, [3]int{100, 1, 3}),
	} {
		change(func(h *api.Hold) { h.Volume = t })
		change(func(h *api.Hold) { h.Height = t })
	}
	return l
}

func badTanks() []api.Tank {
	var l []api.Tank
	change := func(do func(x *api.Tank)) {
		x := exampleT()
		do(&x)
		l = append(l, x)
	}
	for _, id := range []int{0, -1, api.MaxTanks + 1, math.MaxInt, math.MinInt} {
		change(func(x *api.Tank) { x.Id = id })
	}
	for _, r := range badSpans(-api.MaxX, api.MaxX) {
		change(func(x *api.Tank) { x.Along = r })
	}
	for _, t := range badTables() {
		change(func(x *api.Tank) { x.Volume = t })
		change(func(x *api.Tank) { x.Surface = t })
		change(func(x *api.Tank) { x.Height = t })
	}
	for _, t := range []api.Table{
		tableOf([3]int{0, 5, 9}, [3]int{100, 4, 9}), tableOf([3]int{0, 5, 9}, [3]int{100, 5, 8}), line(300, 100),
		tableOf([3]int{0, 0, 0}, [3]int{50, 2, 2}, [3]int{51, 1, 1}, [3]int{100, 9, 9}),
		tableOf([3]int{0, 1, 1}, [3]int{50, 1, 3}, [3]int{100, 1, 2}),
	} {
		change(func(x *api.Tank) { x.Volume = t })
		change(func(x *api.Tank) { x.Height = t })
	}
	return l
}

// badSpans are no ranges of numbers from lo to hi.
func badSpans(lo, hi int) []api.Range {
	return []api.Range{span(lo+1, lo), span(hi, hi-1), span(lo-1, lo), span(hi, hi+1), span(lo-1, hi+1), span(lo-2, lo-1), span(hi+1, hi+2),
		span(math.MinInt, math.MaxInt), span(math.MaxInt, math.MinInt), span(math.MinInt, lo), span(hi, math.MaxInt)}
}

// badTables are no tables of a compartment whose other ones are from 0 to 100.
func badTables() []api.Table {
	var many api.Table
	for x := range api.MaxPoints {
		many.Points = append(many.Points, api.Point{X: x})
	}
	many.Points = append(many.Points, api.Point{X: 100})
	return []api.Table{{}, tableOf([3]int{0, 1, 1}), tableOf([3]int{100, 1, 1}), tableOf([3]int{0, 1, 1}, [3]int{99, 1, 1}), tableOf([3]int{0, 1, 1}, [3]int{101, 1, 1}),
		tableOf([3]int{1, 1, 1}, [3]int{100, 1, 1}), tableOf([3]int{0, -1, 1}, [3]int{100, -1, 1}), tableOf([3]int{0, 0, 1}, [3]int{50, -1, 0}, [3]int{100, -1, 0}),
		tableOf([3]int{0, -2, -1}, [3]int{100, -2, -1}), tableOf([3]int{0, 2, 1}, [3]int{100, 2, 1}), tableOf([3]int{100, 1, 1}, [3]int{0, 1, 1}),
		tableOf([3]int{0, 1, api.MaxY + 1}, [3]int{100, 1, api.MaxY + 1}), tableOf([3]int{0, 1, 1}, [3]int{0, 1, 1}, [3]int{100, 1, 1}), many}
}

func TestCheckHold(t *testing.T) {
	r := rand.New(rand.NewSource(1))
	for i, h := range someHolds(r, 40) {
		if e := hold.CheckHold(h); e != api.OK {
			t.Errorf("hold %d: %d", i, e)
		}
	}
	for i, h := range badHolds() {
		if e := hold.CheckHold(h); e != api.ErrHold {
			t.Errorf("bad hold %d: %d", i, e)
		}
	}
	if e := hold.CheckHold(api.Hold{}); e != api.ErrHold {
		t.Error("no hold:", e)
	}
	h := exampleH()
	h.Volume, h.Moment, h.Height = tableOf([3]int{5, 1, 1}), tableOf([3]int{5, 1, 1}), tableOf([3]int{5, 1, 1})
	if e := hold.CheckHold(h); e != api.ErrHold {
		t.Error("tables of one point:", e)
	}
	h.Moment = line(0, 400) // the moment may rise
	h.Volume = tableOf([3]int{0, 5, 9}, [3]int{100, 5, 9})
	h.Height = tableOf([3]int{0, 0, 0}, [3]int{100, 0, 0})
	if e := hold.CheckHold(h); e != api.OK {
		t.Error("level tables:", e)
	}
}

func TestCheckTank(t *testing.T) {
	r := rand.New(rand.NewSource(2))
	for i, x := range someTanks(r, 40) {
		if e := hold.CheckTank(x); e != api.OK {
			t.Errorf("tank %d: %d", i, e)
		}
	}
	for i, x := range badTanks() {
		if e := hold.CheckTank(x); e != api.ErrTank {
			t.Errorf("bad tank %d: %d", i, e)
		}
	}
	x := exampleT()
	x.Volume, x.Surface, x.Height = tableOf([3]int{5, 1, 1}), tableOf([3]int{5, 1, 1}), tableOf([3]int{5, 1, 1})
	if e := hold.CheckTank(x); e != api.ErrTank {
		t.Error("tables of one point:", e)
	}
	x = exampleT()
	x.Surface = line(50, 0) // the surface may fall
	x.Volume = tableOf([3]int{0, 5, 9}, [3]int{100, 5, 9})
	x.Height = tableOf([3]int{0, 0, 0}, [3]int{100, 0, 0})
	if e := hold.CheckTank(x); e != api.OK {
		t.Error("level tables:", e)
	}
}

// badDensities are not empty, and no densities.
func badDensities() []api.Range { return badSpans(api.MinDensity, api.MaxDensity) }

// badFills are no fills of exampleH.
func badFills() []api.Fill {
	d := exampleD()
	l := []api.Fill{{Hold: 1, Density: d}, {Hold: 1, Ullage: one(1)}, {Hold: 1, Ullage: one(100)}, {Hold: 1, Ullage: span(0, 1)}, {Hold: 1, Density: span(0, 1)},
		{}, {Hold: 2}, {Hold: 0, State: api.Trimmed, Density: d}, {Hold: 2, State: api.Partly, Ullage: span(40, 60), Density: d}}
	for _, state := range []int{-1, api.Overstowed + 1, 7, math.MinInt, math.MaxInt} {
		l = append(l, api.Fill{Hold: 1, State: state}, api.Fill{Hold: 1, State: state, Density: d}, api.Fill{Hold: 1, State: state, Ullage: span(40, 60), Density: d})
	}
	for _, state := range []int{api.Trimmed, api.Untrimmed} {
		l = append(l, api.Fill{Hold: 1, State: state}, api.Fill{Hold: 1, State: state, Ullage: one(1), Density: d}, api.Fill{Hold: 1, State: state, Ullage: span(0, 100), Density: d},
			api.Fill{Hold: 1, State: state, Ullage: span(0, 1), Density: d})
		for _, bad := range badDensities() {
			l = append(l, api.Fill{Hold: 1, State: state, Density: bad})
		}
	}
	for _, state := range []int{api.Partly, api.Strapped, api.Overstowed} {
		l = append(l, api.Fill{Hold: 1, State: state, Ullage: span(40, 60)}, api.Fill{Hold: 2, State: state, Ullage: span(40, 60), Density: d})
		for _, bad := range badSpans(0, 100) {
			l = append(l, api.Fill{Hold: 1, State: state, Ullage: bad, Density: d})
		}
		for _, bad := range badDensities() {
			l = append(l, api.Fill{Hold: 1, State: state, Ullage: span(40, 60), Density: bad})
		}
	}
	return l
}

func TestCheckFill(t *testing.T) {
	r := rand.New(rand.NewSource(3))
	for i, h := range someHolds(r, 40) {
		for range 20 {
			f := randomFill(r, h)
			if e := hold.CheckFill(h, f); e != api.OK {
				t.Errorf("hold %d, fill %v: %d", i, f, e)
			}
		}
	}
	for _, f := range badFills() {
		if e := hold.CheckFill(exampleH(), f); e != api.ErrFill {
			t.Errorf("bad fill %v: %d", f, e)
		}
	}
	for _, state := range []int{api.Partly, api.Strapped, api.Overstowed} {
		for _, all := range []api.Range{span(0, 100), one(0), one(100)} {
			f := api.Fill{Hold: 1, State: state, Ullage: all, Density: span(api.MinDensity, api.MaxDensity)}
			if e := hold.CheckFill(exampleH(), f); e != api.OK {
				t.Errorf("fill %v: %d", f, e)
			}
		}
	}
	for _, h := range badHolds() {
		if e := hold.CheckFill(h, api.Fill{State: 9}); e != api.ErrHold {
			t.Errorf("bad hold %v: %d", h, e)
		}
	}
}

// badLevels are no levels of exampleT.
func badLevels() []api.Level {
	d := exampleD()
	l := []api.Level{{}, {Tank: 2}, {Tank: 1, Sounding: one(0), Density: d}, {Tank: 0, Sounding: one(0), Density: d}, {Tank: math.MaxInt, Density: d},
		{Tank: 2, Pressed: true, Density: d}, {Tank: 2, Pressed: true, Sounding: span(99, 100), Density: d}, {Tank: 2, Pressed: true, Sounding: one(99), Density: d},
		{Tank: 2, Pressed: true, Sounding: one(101), Density: d}, {Tank: 2, Pressed: true, Sounding: span(0, 100), Density: d}, {Tank: 2, Pressed: true, Sounding: one(100)}}
	for _, bad := range badSpans(0, 100) {
		l = append(l, api.Level{Tank: 2, Sounding: bad, Density: d})
	}
	for _, bad := range badDensities() {
		l = append(l, api.Level{Tank: 2, Sounding: one(5), Density: bad}, api.Level{Tank: 2, Pressed: true, Sounding: one(100), Density: bad})
	}
	return l
}

func TestCheckLevel(t *testing.T) {
	r := rand.New(rand.NewSource(4))
	for i, x := range someTanks(r, 40) {
		for range 20 {
			l := randomLevel(r, x)
			if e := hold.CheckLevel(x, l); e != api.OK {
				t.Errorf("tank %d, level %v: %d", i, l, e)
			}
		}
	}
	for _, l := range badLevels() {
		if e := hold.CheckLevel(exampleT(), l); e != api.ErrLevel {
			t.Errorf("bad level %v: %d", l, e)
		}
	}
	for _, all := range []api.Range{span(0, 100), one(0), one(100)} {
		l := api.Level{Tank: 2, Sounding: all, Density: span(api.MinDensity, api.MaxDensity)}
		if e := hold.CheckLevel(exampleT(), l); e != api.OK {
			t.Errorf("level %v: %d", l, e)
		}
	}
	for _, x := range badTanks() {
		if e := hold.CheckLevel(x, api.Level{}); e != api.ErrTank {
			t.Errorf("bad tank %v: %d", x, e)
		}
	}
}
