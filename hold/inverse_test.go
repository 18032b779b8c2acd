package hold_test

import (
	"math"
	"math/rand"
	"testing"

	"ullage/api"
	"ullage/hold"
)

func TestLitres(t *testing.T) {
	r, e := hold.Litres(one(400), exampleD())
	expect(t, "Litres", r, e, one(500), api.OK)
	r, e = hold.Litres(span(-1, 1), one(300))
	expect(t, "Litres around 0", r, e, span(-4, 4), api.OK)
	random := rand.New(rand.NewSource(20))
	masses := []api.Range{one(0), span(-1, 0), span(0, 1), span(-7, -3), span(3, 7), span(-api.MaxWide, api.MaxWide), one(api.MaxWide), one(-api.MaxWide), one(api.MaxWide - 1)}
	for range 2000 {
		masses = append(masses, randomSpan(random, -3000, 3000), randomSpan(random, -api.MaxWide, api.MaxWide))
	}
	for _, m := range masses {
		d := randomDensity(random)
		r, e := hold.Litres(m, d)
		expect(t, "Litres", r, e, wantLitres(m, d), api.OK)
	}
	// Beyond a valid range, but as described.
	r, e = hold.Litres(span(-api.MaxWide, api.MaxWide), one(api.MinDensity))
	expect(t, "most litres", r, e, span(-10*api.MaxWide, 10*api.MaxWide), api.OK)
}

// badMasses are no valid ranges.
func badMasses() []api.Range { return badSpans(-api.MaxWide, api.MaxWide) }

func TestNoMass(t *testing.T) {
	h, x := exampleH(), exampleT()
	for _, m := range badMasses() {
		for _, d := range append(badDensities(), exampleD()) {
			r, e := hold.Litres(m, d)
			expect(t, "Litres", r, e, api.Range{}, api.ErrRange)
			r, e = hold.Ullage(h, m, d)
			expect(t, "Ullage", r, e, api.Range{}, api.ErrRange)
			r, e = hold.Sounding(x, m, d)
			expect(t, "Sounding", r, e, api.Range{}, api.ErrRange)
			f, e := hold.Pour(h, exampleP(), m, d)
			expect(t, "Pour", f, e, api.Fill{}, api.ErrRange)
		}
		for _, f := range []api.Fill{exampleP(), {Hold: 1}, {Hold: 1, State: api.Strapped, Density: exampleD()}} {
			g, e := hold.Draw(h, f, m)
			expect(t, "Draw", g, e, api.Fill{}, api.ErrRange)
		}
		l, e := hold.Pump(x, exampleL(), m)
		expect(t, "Pump", l, e, api.Level{}, api.ErrRange)
	}
	for _, d := range append(badDensities(), api.Range{}) {
		r, e := hold.Litres(one(1), d)
		expect(t, "Litres", r, e, api.Range{}, api.ErrFill)
		r, e = hold.Ullage(h, one(1), d)
		expect(t, "Ullage", r, e, api.Range{}, api.ErrFill)
		r, e = hold.Sounding(x, one(1), d)
		expect(t, "Sounding", r, e, api.Range{}, api.ErrFill)
	}
	for _, h := range badHolds() {
		r, e := hold.Ullage(h, span(1, 0), span(1, 0))
		expect(t, "Ullage of no hold", r, e, api.Range{}, api.ErrHold)
	}
	for _, x := range badTanks() {
		r, e := hold.Sounding(x, span(1, 0), span(1, 0))
		expect(t, "Sounding of no tank", r, e, api.Range{}, api.ErrTank)
	}
}

func expectInverse(t *testing.T, what string, r api.Range, e api.Errno, want api.Range, some bool) {
	t.Helper()
	if some {
		expect(t, what, r, e, want, api.OK)
	} else {
		expect(t, what, r, e, api.Range{}, api.ErrRoom)
	}
}

func TestUllage(t *testing.T) {
	h, d := exampleH(), exampleD()
	for _, c := range []struct {
		mass api.Range
		want api.Range
		some bool
	}{
		{one(400), span(49, 51), true},
		{one(0), span(99, 100), true},
		{one(800), span(0, 1), true},
		{span(0, 800), span(0, 100), true},
		{span(-5, 900), span(0, 100), true},
		{span(800, 900), span(0, 1), true},
		{span(801, 900), api.Range{}, false},
		{span(-9, 0), span(99, 100), true},
		{span(-9, -1), api.Range{}, false},
		{one(api.MaxWide), api.Range{}, false},
		{one(-api.MaxWide), api.Range{}, false},
		{span(-api.MaxWide, api.MaxWide), span(0, 100), true},
	} {
		r, e := hold.Ullage(h, c.mass, d)
		expectInverse(t, "Ullage", r, e, c.want, c.some)
	}
	r := rand.New(rand.NewSource(21))
	for _, h := range someHolds(r, 150) {
		if !small(h.Volume) {
			continue
		}
		for range 30 {
			m, d := aMass(r, h.Volume.Points[0].Hi), randomDensity(r)
			want, some := wantInverse(h.Volume, wantLitres(m, d), true)
			got, e := hold.Ullage(h, m, d)
			expectInverse(t, "Ullage", got, e, want, some)
		}
	}
}

func TestSounding(t *testing.T) {
	x, d := exampleT(), one(1000)
	for _, c := range []struct {
		mass api.Range
		want api.Range
		some bool
	}{
		{one(1000), span(49, 51), true},
		{one(0), span(0, 1), true},
		{one(2000), span(99, 100), true},
		{span(2000, 2001), span(99, 100), true},
		{span(2001, 2001), api.Range{}, false},
		{span(-2, -1), api.Range{}, false},
		{span(-2, 0), span(0, 1), true},
		{span(-api.MaxWide, api.MaxWide), span(0, 100), true},
	} {
		r, e := hold.Sounding(x, c.mass, d)
		expectInverse(t, "Sounding", r, e, c.want, c.some)
	}
	r := rand.New(rand.NewSource(22))
	for _, x := range someTanks(r, 150) {
		if !small(x.Volume) {
			continue
		}
		for range 30 {
			m, d := aMass(r, x.Volume.Points[len(x.Volume.Points)-1].Hi), randomDensity(r)
			want, some := wantInverse(x.Volume, wantLitres(m, d), false)
			got, e := hold.Sounding(x, m, d)
			expectInverse(t, "Sounding", got, e, want, some)
		}
	}
}

// TestInverseAtLimits has tables over a million places.
func TestInverseAtLimits(t *testing.T) {
	r, e := hold.Ullage(greatH(), one(api.MaxY), one(1000))
	expect(t, "Ullage of all", r, e, span(0, 1), api.OK)
	r, e = hold.Ullage(greatH(), one(api.MaxY+1), one(1000))
	expect(t, "Ullage of more", r, e, api.Range{}, api.ErrRoom)
	r, e = hold.Ullage(greatH(), one(0), one(1000))
	expect(t, "Ullage of nothing", r, e, span(api.MaxX-1, api.MaxX), api.OK)
	r, e = hold.Ullage(greatH(), one(api.MaxY/2), one(1000))
	expect(t, "Ullage of the half", r, e, span(api.MaxX/2-1, api.MaxX/2+1), api.OK)
	r, e = hold.Sounding(greatT(), one(api.MaxY), one(1000))
	expect(t, "Sounding of all", r, e, span(api.MaxX-1, api.MaxX), api.OK)
	r, e = hold.Sounding(greatT(), one(0), one(1000))
	expect(t, "Sounding of nothing", r, e, span(0, 1), api.OK)
	if r, e := hold.Ullage(greatH(), span(math.MinInt, math.MaxInt), one(1000)); e != api.ErrRange {
		t.Error(r, e)
	}
}
