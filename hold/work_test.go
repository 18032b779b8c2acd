package hold_test

import (
	"math"
	"math/rand"
	"slices"
	"testing"

	"ullage/api"
	"ullage/fix"
	"ullage/hold"
)

// emptyH and fullH are an empty hold, and a filled one.
func emptyH() api.Fill { return api.Fill{Hold: 1} }
func fullH() api.Fill  { return api.Fill{Hold: 1, State: api.Trimmed, Density: exampleD()} }

func partlyAt(ullage, density api.Range) api.Fill {
	return api.Fill{Hold: 1, State: api.Partly, Ullage: ullage, Density: density}
}

// held are fills whose grain cannot move.
func held() []api.Fill {
	return []api.Fill{{Hold: 1, State: api.Strapped, Ullage: span(40, 60), Density: exampleD()}, {Hold: 1, State: api.Overstowed, Ullage: span(40, 60), Density: exampleD()}}
}

func TestPourExamples(t *testing.T) {
	h, d := exampleH(), exampleD()
	for _, c := range []struct {
		what          string
		f             api.Fill
		mass, density api.Range
		want          api.Fill
		e             api.Errno
	}{
		{"Pour", exampleP(), one(80), d, partlyAt(span(29, 51), d), api.OK},
		{"into an empty hold", emptyH(), one(400), d, partlyAt(span(49, 51), d), api.OK},
		{"of another density", exampleP(), one(90), one(900), partlyAt(span(29, 51), span(800, 900)), api.OK},
		{"of a lighter one", exampleP(), one(70), one(700), partlyAt(span(29, 51), span(700, 800)), api.OK},
		{"nothing", exampleP(), one(0), d, partlyAt(span(39, 60), d), api.OK},
		{"nothing into an empty hold", emptyH(), one(0), d, partlyAt(span(99, 100), d), api.OK},
		{"more than there may be room for", exampleP(), one(480), d, partlyAt(span(0, 1), d), api.OK},
		{"more than there is room for", exampleP(), one(481), d, api.Fill{}, api.ErrRoom},
		{"too much for an empty hold", emptyH(), one(801), d, api.Fill{}, api.ErrRoom},
		{"perhaps too much", emptyH(), span(1, api.MaxWide), d, partlyAt(span(0, 100), d), api.OK},
		{"as much as can be", exampleP(), one(api.MaxWide), d, api.Fill{}, api.ErrRoom},
		{"into a filled hold", fullH(), one(0), d, api.Fill{}, api.ErrRoom},
		{"into an untrimmed hold", api.Fill{Hold: 1, State: api.Untrimmed, Density: d}, one(0), d, api.Fill{}, api.ErrRoom},
		{"below 0", exampleP(), span(-1, 5), d, api.Fill{}, api.ErrArg},
		{"below 0 into a filled hold", fullH(), span(-1, 5), d, api.Fill{}, api.ErrArg},
		{"no density, and below 0", fullH(), span(-1, 5), span(99, 100), api.Fill{}, api.ErrFill},
		{"below 0 into a strapped hold", held()[0], span(-1, 5), d, api.Fill{}, api.ErrArg},
		{"into a strapped hold", held()[0], one(0), d, api.Fill{}, api.ErrFill},
		{"into an overstowed hold", held()[1], one(0), d, api.Fill{}, api.ErrFill},
	} {
		got, e := hold.Pour(h, c.f, c.mass, c.density)
		expect(t, c.what, got, e, c.want, c.e)
	}
}

// TestPourLow has a hold whose ullage is far less than its volume would let it be: what is poured must not make it greater.
func TestPourLow(t *testing.T) {
	h := exampleH()
	h.Volume = tableOf([3]int{0, 100, 1000}, [3]int{100, 0, 900})
	d := one(1000)
	got, e := hold.Pour(h, partlyAt(span(10, 20), d), one(10), d)
	expect(t, "a Hi of at most the one ahead", got, e, partlyAt(span(0, 20), d), api.OK)
	got, e = hold.Draw(h, partlyAt(span(10, 20), d), one(10))
	expect(t, "a Lo of at least the one ahead", got, e, partlyAt(span(10, 100), d), api.OK)
	h.Volume = tableOf([3]int{0, 1000, 1000}, [3]int{50, 500, 500}, [3]int{51, 0, 0}, [3]int{100, 0, 0})
	got, e = hold.Pour(h, partlyAt(span(90, 95), d), one(100), d)
	expect(t, "to a place that is less", got, e, partlyAt(span(50, 51), d), api.OK)
	h.Volume = tableOf([3]int{0, 1000, 1000}, [3]int{100, 1000, 1000})
	got, e = hold.Pour(h, partlyAt(span(90, 95), d), one(0), d)
	expect(t, "a level table", got, e, partlyAt(span(0, 95), d), api.OK)
	got, e = hold.Draw(h, partlyAt(span(90, 95), d), one(0))
	expect(t, "a level table", got, e, partlyAt(span(90, 100), d), api.OK)
}

// wantPour is what the chapter says of Pour, for arguments that are valid, with a mass of at least 0.
func wantPour(h api.Hold, f api.Fill, mass, density api.Range) (api.Fill, api.Errno) {
	switch f.State {
	case api.Strapped, api.Overstowed:
		return api.Fill{}, api.ErrFill
	case api.Trimmed, api.Untrimmed:
		return api.Fill{}, api.ErrRoom
	}
	v, more := wantVolume(h, f), wantLitres(mass, density)
	r, ok := wantInverse(h.Volume, span(v.Lo+more.Lo, v.Hi+more.Hi), true)
	if f.State == api.Partly {
		ok = ok && r.Lo <= f.Ullage.Hi
		r.Hi = min(r.Hi, f.Ullage.Hi)
		density = hullOf(density, f.Density)
	}
	if !ok {
		return api.Fill{}, api.ErrRoom
	}
	return api.Fill{Hold: h.Id, State: api.Partly, Ullage: r, Density: density}, api.OK
}

// wantDraw is what the chapter says of Draw, likewise.
func wantDraw(h api.Hold, f api.Fill, mass api.Range) (api.Fill, api.Errno) {
	switch f.State {
	case api.Empty, api.Strapped, api.Overstowed:
		return api.Fill{}, api.ErrFill
	}
	v, gone := wantVolume(h, f), wantLitres(mass, f.Density)
	v = span(max(0, v.Lo-gone.Hi), v.Hi-gone.Lo)
	if v.Hi < 0 {
		return api.Fill{}, api.ErrRoom
	}
	r, ok := wantInverse(h.Volume, v, true)
	if f.State == api.Partly {
		ok = ok && r.Hi >= f.Ullage.Lo
		r.Lo = max(r.Lo, f.Ullage.Lo)
	}
	if !ok {
		return api.Fill{}, api.ErrRoom
	}
	return api.Fill{Hold: h.Id, State: api.Partly, Ullage: r, Density: f.Density}, api.OK
}

func TestPourAndDraw(t *testing.T) {
	r := rand.New(rand.NewSource(30))
	for _, h := range someHolds(r, 150) {
		if !small(h.Volume) {
			continue
		}
		for range 40 {
			f, d := randomFill(r, h), randomDensity(r)
			m := aMass(r, h.Volume.Points[0].Hi)
			m.Lo, m.Hi = max(m.Lo, 0), max(m.Hi, 0)
			want, wantE := wantPour(h, f, m, d)
			got, e := hold.Pour(h, f, m, d)
			expect(t, "Pour", got, e, want, wantE)
			want, wantE = wantDraw(h, f, m)
			got, e = hold.Draw(h, f, m)
			expect(t, "Draw", got, e, want, wantE)
			if e == api.OK && hold.CheckFill(h, got) != api.OK {
				t.Error("Draw makes no fill:", got)
			}
		}
	}
}

func TestDrawExamples(t *testing.T) {
	h, d := exampleH(), exampleD()
	for _, c := range []struct {
		what string
		f    api.Fill
		mass api.Range
		want api.Fill
		e    api.Errno
	}{
		{"Draw", exampleP(), one(80), partlyAt(span(49, 71), d), api.OK},
		{"too much", exampleP(), one(900), api.Fill{}, api.ErrRoom},
		{"all that there may be", exampleP(), one(480), partlyAt(span(99, 100), d), api.OK},
		{"more than there may be", exampleP(), one(481), api.Fill{}, api.ErrRoom},
		{"perhaps too much", exampleP(), span(0, api.MaxWide), partlyAt(span(40, 100), d), api.OK},
		{"as much as can be", exampleP(), one(api.MaxWide), api.Fill{}, api.ErrRoom},
		{"nothing", exampleP(), one(0), partlyAt(span(40, 61), d), api.OK},
		{"of a filled hold", fullH(), one(400), partlyAt(span(48, 51), d), api.OK},
		{"nothing of a filled hold", fullH(), one(0), partlyAt(span(0, 1), d), api.OK},
		{"of an untrimmed hold", api.Fill{Hold: 1, State: api.Untrimmed, Density: d}, one(400), partlyAt(span(48, 51), d), api.OK},
		{"below 0", exampleP(), span(-1, 5), api.Fill{}, api.ErrArg},
		{"below 0 of an empty hold", emptyH(), span(-1, 5), api.Fill{}, api.ErrArg},
		{"of an empty hold", emptyH(), one(0), api.Fill{}, api.ErrFill},
		{"of a strapped hold", held()[0], one(0), api.Fill{}, api.ErrFill},
		{"below 0 of a strapped hold", held()[0], one(-1), api.Fill{}, api.ErrArg},
		{"of an overstowed hold", held()[1], one(0), api.Fill{}, api.ErrFill},
	} {
		got, e := hold.Draw(h, c.f, c.mass)
		expect(t, c.what, got, e, c.want, c.e)
	}
	h.Volume0 = one(1010)
	if got, e := hold.Draw(h, fullH(), one(7)); got != (api.Fill{}) || e != api.ErrRoom {
		t.Error("a filled hold may have more than its table:", got, e)
	}
}

// TestDrawOfWide has filled holds whose table does not begin at 0.
func TestDrawOfWide(t *testing.T) {
	h := wildH()
	for _, state := range []int{api.Trimmed, api.Untrimmed} {
		f := api.Fill{Hold: 3, State: state, Density: one(1000)}
		want := api.Fill{Hold: 3, State: api.Partly, Ullage: span(13, 21), Density: one(1000)}
		got, e := hold.Draw(h, f, one(40)) // 55 to 62 litres
		expect(t, "Draw", got, e, want, api.OK)
		want.Ullage = span(7, 11)
		got, e = hold.Draw(h, f, one(0))
		expect(t, "Draw nothing", got, e, want, api.OK)
	}
}

func TestSettle(t *testing.T) {
	h, p := exampleH(), exampleP()
	for _, c := range []struct{ drop, hi int }{{0, 60}, {15, 75}, {39, 99}, {40, 100}, {41, 100}, {api.MaxX, 100}} {
		for _, f := range append(held(), p) {
			want := f
			want.Ullage.Hi = c.hi
			got, e := hold.Settle(h, f, c.drop)
			expect(t, "Settle", got, e, want, api.OK)
		}
	}
	for _, drop := range []int{-1, api.MaxX + 1, math.MaxInt, math.MinInt} {
		got, e := hold.Settle(h, p, drop)
		expect(t, "a drop that may not be", got, e, api.Fill{}, api.ErrArg)
		for _, f := range []api.Fill{emptyH(), fullH(), {Hold: 1, State: api.Untrimmed, Density: exampleD()}} {
			got, e := hold.Settle(h, f, drop)
			expect(t, "no free surface", got, e, api.Fill{}, api.ErrFill)
		}
	}
	got, e := hold.Settle(h, fullH(), 3)
	expect(t, "a filled hold", got, e, api.Fill{}, api.ErrFill)
	great := api.Fill{Hold: 9, State: api.Partly, Ullage: span(0, api.MaxX-1), Density: one(800)}
	got, e = hold.Settle(greatH(), great, api.MaxX)
	great.Ullage.Hi = api.MaxX
	expect(t, "the deepest hold", got, e, great, api.OK)
}

// wantBetween is what the chapter says, for fills that are valid.
func wantBetween(h api.Hold, f, g api.Fill) []api.Fill {
	if f.State == g.State {
		return []api.Fill{{Hold: h.Id, State: f.State, Ullage: hullOf(f.Ullage, g.Ullage), Density: hullOf(f.Density, g.Density)}}
	}
	surface := func(f api.Fill) api.Range {
		switch f.State {
		case api.Empty:
			return one(ends(h.Volume).Hi)
		case api.Trimmed, api.Untrimmed:
			return one(ends(h.Volume).Lo)
		}
		return f.Ullage
	}
	d := hullOf(f.Density, g.Density)
	if f.State == api.Empty {
		d = g.Density
	}
	if g.State == api.Empty {
		d = f.Density
	}
	return []api.Fill{f, {Hold: h.Id, State: api.Partly, Ullage: hullOf(surface(f), surface(g)), Density: d}, g}
}

func TestBetween(t *testing.T) {
	h, p := exampleH(), exampleP()
	full := api.Fill{Hold: 1, State: api.Trimmed, Density: span(700, 750)}
	for i, c := range []struct {
		f, g api.Fill
		want []api.Fill
	}{
		{p, full, []api.Fill{p, partlyAt(span(0, 60), span(700, 800)), full}},
		{full, p, []api.Fill{full, partlyAt(span(0, 60), span(700, 800)), p}},
		{emptyH(), p, []api.Fill{emptyH(), partlyAt(span(40, 100), one(800)), p}},
		{full, emptyH(), []api.Fill{full, partlyAt(span(0, 100), span(700, 750)), emptyH()}},
		{emptyH(), emptyH(), []api.Fill{emptyH()}},
		{full, full, []api.Fill{full}},
		{p, partlyAt(span(10, 20), one(900)), []api.Fill{partlyAt(span(10, 60), span(800, 900))}},
		{held()[0], held()[1], []api.Fill{held()[0], p, held()[1]}},
		{held()[0], held()[0], []api.Fill{held()[0]}},
	} {
		got, e := hold.Between(h, c.f, c.g)
		if !slices.Equal(got, c.want) || e != api.OK {
			t.Errorf("case %d: %v %d, want %v", i, got, e, c.want)
		}
	}
	r := rand.New(rand.NewSource(31))
	for _, h := range someHolds(r, 40) {
		for range 40 {
			f, g := randomFill(r, h), randomFill(r, h)
			got, e := hold.Between(h, f, g)
			if want := wantBetween(h, f, g); !slices.Equal(got, want) || e != api.OK {
				t.Errorf("from %v to %v: %v %d, want %v", f, g, got, e, want)
			}
		}
	}
}

// TestBetweenErrors has two fills that are not valid: both errors are alike, and ahead of nothing else.
func TestBetweenErrors(t *testing.T) {
	for _, bad := range badFills() {
		for _, f := range []api.Fill{bad, exampleP()} {
			if got, e := hold.Between(exampleH(), f, bad); len(got) != 0 || e != api.ErrFill {
				t.Error(got, e)
			}
		}
	}
}

// wantWorst goes through all places.
func wantWorst(h api.Hold, f api.Fill) (ullage, moment int) {
	if f.State != api.Partly {
		return 0, wantMoment(h, f).Hi
	}
	ullage, moment = -1, -1
	for x := f.Ullage.Lo; x <= f.Ullage.Hi; x++ {
		if at := atOf(h.Moment, x); at.Hi > moment {
			ullage, moment = x, at.Hi
		}
	}
	return ullage, moment
}

func expectWorst(t *testing.T, h api.Hold, f api.Fill, ullage, moment int) {
	t.Helper()
	u, m, e := hold.Worst(h, f)
	if u != ullage || m != moment || e != api.OK {
		t.Errorf("Worst of %v: %d %d %d, want %d %d", f, u, m, e, ullage, moment)
	}
	if e := hold.CheckWorst(h, f, u, m); e != api.OK {
		t.Errorf("CheckWorst of %v: %d", f, e)
	}
}

func TestWorst(t *testing.T) {
	h := exampleH()
	expectWorst(t, h, exampleP(), 50, 500)
	expectWorst(t, h, partlyAt(span(60, 70), exampleD()), 60, 400)
	expectWorst(t, h, partlyAt(span(10, 20), exampleD()), 20, 200)
	expectWorst(t, h, partlyAt(one(0), exampleD()), 0, 0)
	expectWorst(t, h, fullH(), 0, 20)
	expectWorst(t, h, api.Fill{Hold: 1, State: api.Untrimmed, Density: exampleD()}, 0, 60)
	expectWorst(t, h, emptyH(), 0, 0)
	expectWorst(t, h, held()[0], 0, 0)
	expectWorst(t, h, held()[1], 0, 0)
	// What is rounded up is greatest long ahead of the point.
	h.Moment = tableOf([3]int{0, 0, 0}, [3]int{90, 0, 3}, [3]int{100, 0, 1})
	expectWorst(t, h, partlyAt(span(5, 95), exampleD()), 61, 3)
	expectWorst(t, h, partlyAt(span(70, 95), exampleD()), 70, 3)
	expectWorst(t, h, partlyAt(span(5, 60), exampleD()), 31, 2)
	// Two places alike: the first one of the fill's.
	h.Moment = tableOf([3]int{0, 0, 90}, [3]int{10, 1, 10}, [3]int{50, 2, 90}, [3]int{60, 0, 0}, [3]int{100, 90, 90})
	expectWorst(t, h, partlyAt(span(0, 100), exampleD()), 0, 90)
	expectWorst(t, h, partlyAt(span(1, 100), exampleD()), 50, 90)
	expectWorst(t, h, partlyAt(span(51, 100), exampleD()), 100, 90)
	expectWorst(t, h, partlyAt(span(51, 60), exampleD()), 51, 81)
	r := rand.New(rand.NewSource(32))
	for _, h := range someHolds(r, 150) {
		for range 30 {
			f := randomFill(r, h)
			if small(h.Moment) || f.State != api.Partly {
				u, m := wantWorst(h, f)
				expectWorst(t, h, f, u, m)
			}
		}
	}
	expectWorst(t, greatH(), api.Fill{Hold: 9, State: api.Partly, Ullage: span(0, api.MaxX), Density: one(800)}, api.MaxX/2, api.MaxY)
}

// TestCheckWorst asks of each place and of many moments whether they are what the chapter accepts.
func TestCheckWorst(t *testing.T) {
	r := rand.New(rand.NewSource(33))
	for range 150 {
		h := randomHold(r, 8, 4, 7)
		f := randomFill(r, h)
		_, worst := wantWorst(h, f)
		for u := -2; u <= ends(h.Volume).Hi+2; u++ {
			for m := -1; m <= 9; m++ {
				ok := u == 0 && m == worst
				if f.State == api.Partly {
					ok = f.Ullage.Lo <= u && u <= f.Ullage.Hi && m == worst && atOf(h.Moment, u).Hi == m
				}
				if e := hold.CheckWorst(h, f, u, m); ok != (e == api.OK) || !ok && e != api.ErrArg {
					t.Fatalf("%v %v: %d at %d: %d", h, f, m, u, e)
				}
			}
		}
	}
	for _, n := range []int{math.MinInt, math.MaxInt} {
		for _, f := range []api.Fill{exampleP(), fullH(), emptyH()} {
			for _, e := range []api.Errno{hold.CheckWorst(exampleH(), f, n, 500), hold.CheckWorst(exampleH(), f, 50, n), hold.CheckWorst(exampleH(), f, n, 0), hold.CheckWorst(exampleH(), f, n, n)} {
				if e != api.ErrArg {
					t.Error(f, n, e)
				}
			}
		}
	}
	if e := hold.CheckWorst(exampleH(), exampleP(), 50, 500); e != api.OK {
		t.Error(e)
	}
	if at, _ := fix.At(exampleH().Moment, 40); at.Hi != 400 || hold.CheckWorst(exampleH(), exampleP(), 40, 400) != api.ErrArg {
		t.Error("a place that has less than another one")
	}
}
