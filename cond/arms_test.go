package cond_test

import (
	"testing"

	"ullage/api"
	"ullage/cond"
)

func TestArmsExamples(t *testing.T) {
	s, l := exampleS(), exampleL()
	r, e := cond.Righting(s, l)
	expectTable(t, "Righting", r, e, exactly(0, 0, 400, 2000, 800, 400), api.OK)
	r, e = cond.Heeling(s, l)
	expectTable(t, "Heeling", r, e, exactly(0, 100, 400, 80, 800, 60), api.OK)
	r, e = cond.Margin(s, l)
	expectTable(t, "Margin", r, e, exactly(0, -100, 400, 1920, 800, 340), api.OK)
}

// TestArms holds all against the oracle, errors too.
func TestArms(t *testing.T) {
	seen := map[api.Errno]int{}
	for _, x := range trials(20, 300) {
		r, e := cond.Righting(x.s, x.l)
		want, wantE := wantRighting(x.s, x.l)
		expectTable(t, "Righting", r, e, want, wantE)
		r, e = cond.Heeling(x.s, x.l)
		want, wantE = wantHeeling(x.s, x.l)
		expectTable(t, "Heeling", r, e, want, wantE)
		r, e = cond.Margin(x.s, x.l)
		want, wantE = wantMargin(x.s, x.l)
		expectTable(t, "Margin", r, e, want, wantE)
		seen[wantE]++
	}
	if seen[api.OK] < 500 || seen[api.ErrOut] < 50 {
		t.Error("too few cases:", seen)
	}
}

// TestBends: there is a point at each angle that one of the tables has, if it is an angle of the ship.
func TestBends(t *testing.T) {
	s, l := exampleS(), exampleL()
	s.Cross[0].Arms = exactly(10, 0, 100, 90, 900, 90)
	s.Cross[1].Arms = exactly(0, 0, 5, 5, 20, 20, 850, 850)
	s.Sine = exactly(0, 0, 12, 7000, 30, 20000, 820, 800000)
	s.Shift = exactly(3, 1000, 30, 900, 40, 800, 801, 7, 900, 6)
	r, e := cond.Margin(s, l)
	var xs []int
	for _, p := range r.Points {
		xs = append(xs, p.X)
	}
	want := []int{10, 12, 20, 30, 40, 100, 801, 820}
	if e != api.OK || len(xs) != len(want) {
		t.Fatalf("Margin: %v, %d", r, e)
	}
	for i := range want {
		if xs[i] != want[i] {
			t.Fatalf("Margin: %v, not %v", xs, want)
		}
	}
	// A ship with one angle.
	s.Sine, s.Shift = exactly(10, 50), exactly(10, 1000)
	r, e = cond.Heeling(s, l)
	expectTable(t, "Heeling of one angle", r, e, exactly(10, 100), api.OK)
	for _, f := range []func(api.Ship, api.Load) (api.Table, api.Errno){cond.Righting, cond.Margin} {
		if r, e := f(s, l); e != api.OK || len(r.Points) != 1 || r.Points[0].X != 10 {
			t.Error("one angle:", r, e)
		}
	}
}

// comb has a point at each even place, or each odd one, and at 0 and at the last place.
func comb(odd, last int) api.Table {
	var t api.Table
	for x := range last + 1 {
		if x%2 == odd || x == 0 || x == last {
			t.Points = append(t.Points, api.Point{X: x})
		}
	}
	return t
}

func TestManyAngles(t *testing.T) {
	s := exampleS()
	s.Sine, s.Shift = comb(0, api.MaxPoints-1), comb(1, api.MaxPoints-1)
	for _, f := range []func(api.Ship, api.Load) (api.Table, api.Errno){cond.Righting, cond.Heeling, cond.Margin} {
		r, e := f(s, exampleL())
		if e != api.OK || len(r.Points) != api.MaxPoints {
			t.Error("as many as can be:", len(r.Points), e)
		}
	}
	more := []api.Ship{exampleS(), exampleS(), exampleS()}
	more[0].Sine, more[0].Shift = comb(0, api.MaxPoints), comb(1, api.MaxPoints)
	more[1].Shift, more[1].Cross[0].Arms = comb(0, api.MaxPoints), comb(1, 60)
	more[2].Sine, more[2].Cross[1].Arms = comb(0, 70), comb(1, 71)
	heavy := api.Load{Weights: []api.Weight{{Mass: one(api.MaxKilos)}}, Shift: one(api.MaxMoment)}
	great := api.Load{Shift: one(api.MaxMoment), Surface: one(api.MaxMoment)}
	for i, s := range more {
		s.Light.Mass = one(1000)
		for _, l := range []api.Load{exampleL(), {}, heavy, great} {
			for name, f := range map[string]func(api.Ship, api.Load) (api.Table, api.Errno){"Righting": cond.Righting, "Heeling": cond.Heeling, "Margin": cond.Margin} {
				r, e := f(s, l)
				expectTable(t, name, r, e, api.Table{}, api.ErrLong)
			}
			if r, e := cond.Heel(s, l); e != api.ErrLong || r != (api.Range{}) {
				t.Errorf("Heel %d: %v %d", i, r, e)
			}
			if r, e := cond.Rest(s, l, 7); e != api.ErrLong || r != (api.Range{}) {
				t.Errorf("Rest %d: %v %d", i, r, e)
			}
		}
	}
	// Points at places that are no angles of the ship do not count.
	s.Sine, s.Shift = comb(0, 76), exactly(0, 0, 7, 7)
	if r, e := cond.Righting(s, exampleL()); e != api.OK || len(r.Points) != 5 {
		t.Error("a short ship:", r, e)
	}
	s.Cross[0].Arms = comb(1, 75)
	if r, e := cond.Margin(s, exampleL()); e != api.OK || len(r.Points) != 8 {
		t.Error("a short ship:", r, e)
	}
}

// oneAngle is a ship of 1000 kilograms with one angle, at which she has this arm, and the whole centre counts.
func oneAngle(arm, high int) api.Ship {
	s := greatS()
	s.Light = api.Weight{Mass: one(1000), High: one(high)}
	s.Cross = []api.Cross{{Tonnes: 1, Arms: exactly(0, arm)}}
	s.Sine, s.Shift = exactly(0, 1000000), exactly(0, 1000)
	return s
}

// TestGreatArms has arms at the limit, and above it; products on the way may be greater.
func TestGreatArms(t *testing.T) {
	y, p := api.MaxY, api.MaxPlace
	whole := one(api.MaxMoment) // 10^9 of 1000 kilograms
	for _, x := range []struct {
		what      string
		arm, high int
		l         api.Load
		righting  int
		e         api.Errno
	}{
		{"at the limit", 0, 0, api.Load{Surface: whole}, -y, api.OK},
		{"above it", 0, 1, api.Load{Surface: whole}, 0, api.ErrBig},
		{"above it by an arm", -1, 0, api.Load{Surface: whole}, 0, api.ErrBig},
		{"a product above all ranges", p, p, api.Load{Surface: whole}, -y, api.OK},
		{"a product above all ranges, and above", p - 1, p, api.Load{Surface: whole}, 0, api.ErrBig},
		{"a positive one", p, 0, api.Load{}, p, api.OK},
	} {
		want := api.Table{}
		if x.e == api.OK {
			want = exactly(0, x.righting)
		}
		r, e := cond.Righting(oneAngle(x.arm, x.high), x.l)
		expectTable(t, x.what, r, e, want, x.e)
	}
	for _, x := range []struct {
		what  string
		shift int
		l     api.Load
		want  int
		e     api.Errno
	}{
		{"at the limit", 1000, api.Load{Shift: whole}, y, api.OK},
		{"above it", 1001, api.Load{Shift: whole}, 0, api.ErrBig},
		{"at the limit, less", 10000, api.Load{Shift: one(api.MaxMoment / 10)}, y, api.OK},
		{"above it, less", 10000, api.Load{Shift: one(api.MaxMoment/10 + 1000)}, 0, api.ErrBig},
		{"far above", 10000, api.Load{Shift: whole}, 0, api.ErrBig},
	} {
		s, want := oneAngle(0, 0), api.Table{}
		s.Shift = exactly(0, x.shift)
		if x.e == api.OK {
			want = exactly(0, x.want)
		}
		r, e := cond.Heeling(s, x.l)
		expectTable(t, x.what, r, e, want, x.e)
	}
	for _, x := range []struct {
		arm  int
		l    api.Load
		want int
		e    api.Errno
	}{
		{0, api.Load{Shift: whole}, -y, api.OK},
		{-1, api.Load{Shift: whole}, 0, api.ErrBig},
		{0, api.Load{Surface: one(api.MaxMoment - 1000), Shift: one(1000)}, -y, api.OK},
		{0, api.Load{Surface: one(api.MaxMoment - 1000), Shift: one(2000)}, 0, api.ErrBig},
		{-1, api.Load{Surface: whole}, 0, api.ErrBig},
	} {
		want := api.Table{}
		if x.e == api.OK {
			want = exactly(0, x.want)
		}
		r, e := cond.Margin(oneAngle(x.arm, 0), x.l)
		expectTable(t, "Margin", r, e, want, x.e)
		if h, e := cond.Heel(oneAngle(x.arm, 0), x.l); x.e != api.OK && e != x.e || h != (api.Range{}) {
			t.Errorf("Heel: %v %d, want %d", h, e, x.e)
		}
	}
}

// TestGreatOrder: of several errors of arms the first one is told.
func TestGreatOrder(t *testing.T) {
	whole := one(api.MaxMoment)
	// The displacement is not between those of the curves, and a number would be too great.
	s := oneAngle(-1, 0)
	s.Cross[0].Tonnes = 2
	for _, l := range []api.Load{{Surface: whole}, {Shift: whole}, {Surface: whole, Shift: whole}} {
		r, e := cond.Righting(s, l)
		expectTable(t, "Righting", r, e, api.Table{}, api.ErrOut)
		r, e = cond.Margin(s, l)
		expectTable(t, "Margin", r, e, api.Table{}, api.ErrOut)
	}
	r, e := cond.Heeling(s, api.Load{Shift: whole})
	expectTable(t, "Heeling", r, e, exactly(0, api.MaxY), api.OK)
	// Both arms are too great, and one too many.
	s.Cross[0].Tonnes, s.Shift = 1, exactly(0, 10000)
	r, e = cond.Margin(s, api.Load{Surface: whole, Shift: whole})
	expectTable(t, "Margin", r, e, api.Table{}, api.ErrBig)
	r, e = cond.Margin(s, api.Load{Shift: whole})
	expectTable(t, "Margin", r, e, api.Table{}, api.ErrBig)
}

// TestRounding: what is between two numbers is rounded so that the arms have it.
func TestRounding(t *testing.T) {
	s, l := exampleS(), exampleL()
	s.Cross = []api.Cross{{Tonnes: 3, Arms: exactly(0, 0, 3, 10)}, {Tonnes: 6, Arms: exactly(0, 0, 1, 9, 3, 9)}}
	s.Sine, s.Shift = exactly(0, 0, 2, 125, 3, 375), exactly(0, 1000, 3, 0)
	l.Shift = one(4002)
	// At 1: the arms are 3 to 4 and 9, of 4 tonnes 5 to 6; the sine is from 62 to 63, times 4000 from 0.248 to 0.252.
	// At 2: 6 to 7 and 9, so 7 to 8; 125 times 4000 is 0.5.  At 3: 10 and 9, so 9 to 10; 1.5.
	r, e := cond.Righting(s, l)
	expectTable(t, "Righting", r, e, tableOf([3]int{0, 0, 0}, [3]int{1, 4, 6}, [3]int{2, 6, 8}, [3]int{3, 7, 9}), api.OK)
	// The arm of the shift is from 1 to 2: at 1 times 666 to 667, at 2 times 333 to 334.
	r, e = cond.Heeling(s, l)
	expectTable(t, "Heeling", r, e, tableOf([3]int{0, 1, 2}, [3]int{1, 0, 2}, [3]int{2, 0, 1}, [3]int{3, 0, 0}), api.OK)
	r, e = cond.Margin(s, l)
	expectTable(t, "Margin", r, e, tableOf([3]int{0, -2, -1}, [3]int{1, 2, 6}, [3]int{2, 5, 8}, [3]int{3, 7, 9}), api.OK)
}

// TestBetweenCurves: a wide displacement has the curves between, too.
func TestBetweenCurves(t *testing.T) {
	s, l := exampleS(), exampleL()
	s.Cross = []api.Cross{{Tonnes: 2, Arms: exactly(0, 10)}, {Tonnes: 5, Arms: tableOf([3]int{0, 70, 80})}, {Tonnes: 8, Arms: exactly(0, 10)}}
	s.Sine = exactly(0, 0)
	for _, x := range []struct {
		mass, want api.Range
		e          api.Errno
	}{
		{one(0), one(10), api.OK},
		{one(1000), span(30, 34), api.OK},
		{one(3000), span(70, 80), api.OK},
		{span(1000, 5000), span(30, 80), api.OK},
		{span(0, 6000), span(10, 80), api.OK},
		{span(2001, 2002), span(50, 80), api.OK},
		{span(0, 6001), api.Range{}, api.ErrOut},
		{one(7000), api.Range{}, api.ErrOut},
	} {
		l.Weights[0].Mass = x.mass
		want := api.Table{}
		if x.e == api.OK {
			want = tableOf([3]int{0, x.want.Lo, x.want.Hi})
		}
		r, e := cond.Righting(s, l)
		expectTable(t, "Righting", r, e, want, x.e)
	}
	s.Light.Mass = span(1999, 2000)
	l.Weights[0].Mass = one(0)
	r, e := cond.Righting(s, l)
	expectTable(t, "too light", r, e, api.Table{}, api.ErrOut)
}
