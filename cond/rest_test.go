package cond_test

import (
	"testing"

	"ullage/api"
	"ullage/cond"
)

// withMargin is a ship whose margin, without a load, is a table over the angle, and which floods from an angle of flood on.
func withMargin(t api.Table, flood api.Range) api.Ship {
	s := greatS()
	s.Light = api.Weight{Mass: one(1000)}
	s.Flood = flat(0, 9, flood)
	s.Cross = []api.Cross{{Tonnes: 1, Arms: t}}
	first, last := ends(t).Lo, ends(t).Hi
	s.Sine, s.Shift = flat(first, last+1, one(0)), flat(first, last+1, one(0))
	if last == api.MaxAngle {
		s.Sine, s.Shift = flat(0, last, one(0)), flat(0, last, one(0))
	}
	return s
}

// dry never floods.
func dry() api.Range { return one(api.MaxY) }

func TestRestExamples(t *testing.T) {
	s, l := exampleS(), exampleL()
	h, e := cond.Heel(s, l)
	expect(t, "Heel", h, e, one(20), api.OK)
	n, e := cond.End(s, l, 400)
	expect(t, "End", n, e, 400, api.OK)
	n, e = cond.End(s, l, 900)
	expect(t, "End", n, e, 500, api.OK)
	r, e := cond.Rest(s, l, 400)
	expect(t, "Rest", r, e, one(729980), api.OK)
	x, r, e := cond.Weakest(s, l, 400)
	expect(t, "Weakest", r, e, one(1), api.OK)
	expect(t, "Weakest: the angle", x, e, 20, api.OK)
	m, e := cond.Margin(withMargin(exactly(3, 4, 9, 5), dry()), api.Load{})
	expectTable(t, "a margin that is given", m, e, exactly(3, 4, 9, 5), api.OK)
}

// TestRests holds all against the oracle, errors too.
func TestRests(t *testing.T) {
	seen, heels := map[api.Errno]int{}, map[api.Errno]int{}
	for i, x := range trials(30, 300) {
		h, e := cond.Heel(x.s, x.l)
		want, wantE := wantHeel(x.s, x.l)
		expect(t, "Heel", h, e, want, wantE)
		heels[e]++
		for _, most := range []int{i % (api.MaxAngle + 1), api.MaxAngle, i % 40} {
			n, e := cond.End(x.s, x.l, most)
			wantN, wantE := wantEnd(x.s, x.l, most)
			expect(t, "End", n, e, wantN, wantE)
			r, e := cond.Rest(x.s, x.l, most)
			want, wantE := wantRest(x.s, x.l, most)
			expect(t, "Rest", r, e, want, wantE)
			seen[e]++
			a, v, e := cond.Weakest(x.s, x.l, most)
			wantA, wantV, wantE := wantWeakest(x.s, x.l, most)
			expect(t, "Weakest", v, e, wantV, wantE)
			expect(t, "Weakest: the angle", a, e, wantA, wantE)
		}
	}
	if seen[api.OK] < 300 || seen[api.ErrNone] < 300 || seen[api.ErrOut] < 100 || heels[api.ErrNone] < 50 {
		t.Error("too few cases:", seen, heels)
	}
}

func TestHeel(t *testing.T) {
	for _, x := range []struct {
		what string
		m    api.Table
		want api.Range
		e    api.Errno
	}{
		{"at once", exactly(0, 0, 9, 5), one(0), api.OK},
		{"at once, not from 0", exactly(30, 7, 90, 5), one(30), api.OK},
		{"at a point", exactly(0, -9, 50, 0, 90, 9), span(45, 50), api.OK},
		{"just behind a point", exactly(0, -9, 50, -1, 90, 39), one(51), api.OK},
		{"at the last one", exactly(0, -9, 50, -1, 900, 0), span(51, 900), api.OK},
		{"never", exactly(0, -9, 50, -1, 90, -1), api.Range{}, api.ErrNone},
		{"perhaps", tableOf([3]int{0, -9, 0}, [3]int{90, -1, 9}), api.Range{}, api.ErrNone},
		{"from the first one to the last one", tableOf([3]int{0, -9, 0}, [3]int{90, 0, 9}), span(0, 90), api.OK},
		{"above less than 0 is rounded", tableOf([3]int{0, -9, -1}, [3]int{10, -9, 0}, [3]int{20, 0, 0}), span(1, 20), api.OK},
		{"below 0 is rounded", tableOf([3]int{0, -9, -9}, [3]int{10, -1, -1}, [3]int{20, 0, 0}), span(11, 20), api.OK},
		{"below 0 again", exactly(0, -10, 10, 10, 20, -10, 30, 10), one(5), api.OK},
		{"perhaps, then below 0", tableOf([3]int{0, -10, 2}, [3]int{10, -5, -4}, [3]int{20, -9, -8}, [3]int{30, 12, 13}), span(0, 25), api.OK},
		{"perhaps from between two points on", tableOf([3]int{4, -10, -5}, [3]int{9, -7, 20}, [3]int{29, 13, 21}), span(5, 16), api.OK},
		{"at the only one", exactly(7, 0), one(7), api.OK},
		{"not at the only one", tableOf([3]int{7, -1, 5}), api.Range{}, api.ErrNone},
	} {
		r, e := cond.Heel(withMargin(x.m, dry()), api.Load{})
		expect(t, x.what, r, e, x.want, x.e)
	}
}

func TestEnd(t *testing.T) {
	m := exactly(10, 5, 700, 5)
	for _, x := range []struct {
		what  string
		flood api.Range
		most  int
		want  int
	}{
		{"most", dry(), 300, 300}, {"most 0", dry(), 0, 0}, {"greatest angle", dry(), 900, 700}, {"greatest angle", dry(), 700, 700}, {"one more", dry(), 701, 700}, {"one less", dry(), 699, 699},
		{"flood", span(250, 600), 300, 250}, {"flood at once", span(0, 900), 300, 0}, {"flood late", span(300, 600), 299, 299},
	} {
		n, e := cond.End(withMargin(m, x.flood), api.Load{}, x.most)
		expect(t, x.what, n, e, x.want, api.OK)
	}
	// Of all displacements the least angle counts.
	s := withMargin(m, dry())
	s.Flood, s.Light.Mass = exactly(1, 500, 2, 400, 3, 450), span(1000, 3000)
	n, e := cond.End(s, api.Load{}, 900)
	expect(t, "a dip", n, e, 400, api.OK)
	s.Light.Mass = span(1000, 3001)
	n, e = cond.End(s, api.Load{}, 900)
	expect(t, "too heavy", n, e, 0, api.ErrOut)
	s.Flood = exactly(0, 500, 5, 499)
	s.Light.Mass = one(1000)
	n, e = cond.End(s, api.Load{}, 900)
	expect(t, "rounded", n, e, 499, api.OK)
}

func TestRest(t *testing.T) {
	for _, x := range []struct {
		what        string
		m           api.Table
		flood       api.Range
		most        int
		rest        api.Range
		restE       api.Errno
		angle       int
		weakest     api.Range
		weakestE    api.Errno
		sharedAngle int // most at which just one angle is left
	}{
		{"a dip", exactly(0, 5, 10, 2, 20, 8), dry(), 900, one(170), api.OK, 7, span(2, 3), api.OK, 0},
		{"a dip below 0", exactly(0, 5, 10, -5, 20, -15, 30, 5), dry(), 25, one(-300), api.OK, 20, one(-15), api.OK, 0},
		{"a fall that is rounded", exactly(0, 10, 100, 9), dry(), 900, one(1900), api.OK, 1, span(9, 10), api.OK, 0},
		{"a fall that is rounded, cut", exactly(0, 10, 99, 9), dry(), 98, span(1862, 1863), api.OK, 1, span(9, 10), api.OK, 0},
		{"a steep dip", exactly(0, 50, 10, 20, 20, 80), dry(), 900, one(1700), api.OK, 10, one(20), api.OK, 0},
		{"two steep dips", exactly(0, 50, 10, 20, 20, 80, 26, 20, 27, 30), dry(), 900, one(2350), api.OK, 10, one(20), api.OK, 0},
		{"flat", exactly(3, 7, 90, 7), dry(), 900, one(1218), api.OK, 3, one(7), api.OK, 3},
		{"twice as little", exactly(0, 9, 10, 4, 20, 9, 30, 4, 40, 5), dry(), 900, one(480), api.OK, 9, span(4, 5), api.OK, 0},
		{"at the end", exactly(0, 9, 10, 4, 20, 9, 30, 3), dry(), 900, one(380), api.OK, 29, span(3, 4), api.OK, 0},
		{"below the flood", exactly(0, 9, 10, 4, 20, 9, 30, 0), span(12, 15), 900, one(148), api.OK, 9, span(4, 5), api.OK, 0},
		{"behind the heel", exactly(0, -10, 10, 0, 20, 10), dry(), 15, one(25), api.OK, 10, one(0), api.OK, 10},
		{"wide", tableOf([3]int{0, -5, 5}, [3]int{10, 5, 15}), dry(), 900, span(25, 125), api.OK, 5, span(0, 10), api.OK, 5},
		{"too early", exactly(0, -10, 10, 0, 20, 10), dry(), 9, api.Range{}, api.ErrNone, 0, api.Range{}, api.ErrNone, 10},
		{"flooded too early", exactly(0, -10, 10, 0, 20, 10), span(9, 30), 20, api.Range{}, api.ErrNone, 0, api.Range{}, api.ErrNone, -1},
		{"most ahead of the first angle", exactly(10, 5, 20, 5), dry(), 9, api.Range{}, api.ErrNone, 0, api.Range{}, api.ErrNone, 10},
		{"never", exactly(0, -1, 20, -1), dry(), 900, api.Range{}, api.ErrNone, 0, api.Range{}, api.ErrNone, -1},
	} {
		s := withMargin(x.m, x.flood)
		r, e := cond.Rest(s, api.Load{}, x.most)
		expect(t, "Rest: "+x.what, r, e, x.rest, x.restE)
		a, r, e := cond.Weakest(s, api.Load{}, x.most)
		expect(t, "Weakest: "+x.what, r, e, x.weakest, x.weakestE)
		expect(t, "Weakest: the angle: "+x.what, a, e, x.angle, x.weakestE)
		if x.sharedAngle >= 0 {
			r, e := cond.Rest(s, api.Load{}, x.sharedAngle)
			expect(t, "Rest of one angle: "+x.what, r, e, api.Range{}, api.ErrNone)
			a, _, e := cond.Weakest(s, api.Load{}, x.sharedAngle)
			expect(t, "Weakest of one angle: "+x.what, a, e, x.sharedAngle, api.OK)
		}
	}
	r, e := cond.Rest(withMargin(exactly(0, 5), dry()), api.Load{}, 900)
	expect(t, "Rest of a ship of one angle", r, e, api.Range{}, api.ErrNone)
	a, r, e := cond.Weakest(withMargin(exactly(0, 5), dry()), api.Load{}, 900)
	expect(t, "Weakest of a ship of one angle", r, e, one(5), api.OK)
	expect(t, "Weakest of a ship of one angle", a, e, 0, api.OK)
}

// TestRestErrors: those of Heel are ahead of that of End, and this one ahead of an end that is too early.
func TestRestErrors(t *testing.T) {
	up, never := exactly(0, -10, 10, 0, 20, 10), exactly(0, -1, 20, -1)
	noFlood := func(s api.Ship) api.Ship {
		s.Flood = exactly(5, 500, 9, 500)
		return s
	}
	noCross := func(s api.Ship) api.Ship {
		s.Cross[0].Tonnes = 2
		return s
	}
	for _, x := range []struct {
		what string
		s    api.Ship
		l    api.Load
		most int
		want api.Errno
	}{
		{"no flood", noFlood(withMargin(up, dry())), api.Load{}, 900, api.ErrOut},
		{"no flood, too early", noFlood(withMargin(up, dry())), api.Load{}, 5, api.ErrOut},
		{"no flood, never up", noFlood(withMargin(never, dry())), api.Load{}, 900, api.ErrNone},
		{"no curves, never up", noCross(withMargin(never, dry())), api.Load{}, 900, api.ErrOut},
		{"no curves, too early", noCross(withMargin(up, dry())), api.Load{}, 5, api.ErrOut},
		{"too great, no flood", noFlood(oneAngle(-1, 0)), api.Load{Surface: one(api.MaxMoment)}, 5, api.ErrBig},
	} {
		r, e := cond.Rest(x.s, x.l, x.most)
		expect(t, "Rest: "+x.what, r, e, api.Range{}, x.want)
		a, r, e := cond.Weakest(x.s, x.l, x.most)
		expect(t, "Weakest: "+x.what, r, e, api.Range{}, x.want)
		expect(t, "Weakest: the angle: "+x.what, a, e, 0, x.want)
		c, e := cond.Prove(x.s, x.l, x.most, api.MaxNeed+1)
		if len(c.Points) != 0 || e != x.want {
			t.Errorf("Prove: %s: %v %d, want %d", x.what, c, e, x.want)
		}
		if e := cond.Check(x.s, x.l, x.most, api.MaxNeed+1, api.Cert{}); e != x.want {
			t.Errorf("Check: %s: %d, want %d", x.what, e, x.want)
		}
	}
}
