package hold_test

import (
	"math/rand"
	"testing"

	"ullage/api"
	"ullage/hold"
)

func TestFillExamples(t *testing.T) {
	h, p := exampleH(), exampleP()
	for _, c := range []struct {
		what string
		f    func(api.Hold, api.Fill) (api.Range, api.Errno)
		want api.Range
	}{{"Volume", hold.Volume, span(400, 600)}, {"Mass", hold.Mass, span(320, 480)}, {"Moment", hold.Moment, span(320, 500)}, {"Heel", hold.Heel, span(256, 400)}, {"Height", hold.Height, span(180, 220)}} {
		r, e := c.f(h, p)
		expect(t, c.what, r, e, c.want, api.OK)
	}
	r, e := hold.Mass(h, api.Fill{Hold: 1, State: api.Trimmed, Density: exampleD()})
	expect(t, "Mass of a trimmed hold", r, e, span(800, 808), api.OK)
	r, e = hold.Moment(h, api.Fill{Hold: 1, State: api.Strapped, Ullage: span(40, 60), Density: exampleD()})
	expect(t, "Moment of a strapped hold", r, e, api.Range{}, api.OK)
	w, e := hold.Weight(h, p)
	expect(t, "Weight", w, e, api.Weight{Mass: span(320, 480), High: span(180, 220)}, api.OK)
}

func TestEachState(t *testing.T) {
	h, d := wildH(), span(500, 601)
	for _, c := range []struct {
		state                              int
		volume, mass, moment, heel, height api.Range
	}{
		{api.Empty, one(0), one(0), one(0), one(0), one(0)},
		{api.Trimmed, span(95, 102), span(47, 62), span(1, 2), span(0, 2), span(41, 43)},
		{api.Untrimmed, span(95, 102), span(47, 62), span(3, 5), span(1, 4), span(41, 43)},
		{api.Partly, span(3, 95), span(1, 58), span(1, 9), span(0, 6), span(17, 42)},
		{api.Strapped, span(3, 95), span(1, 58), one(0), one(0), span(17, 42)},
		{api.Overstowed, span(3, 95), span(1, 58), one(0), one(0), span(17, 42)},
	} {
		f := api.Fill{Hold: 3, State: c.state, Density: d}
		if c.state == api.Empty {
			f.Density = api.Range{}
		}
		if c.state >= api.Partly {
			f.Ullage = span(10, 20)
		}
		checkFill(t, h, f, c.volume, c.mass, c.moment, c.heel, c.height)
	}
}

func checkFill(t *testing.T, h api.Hold, f api.Fill, volume, mass, moment, heel, height api.Range) {
	t.Helper()
	r, e := hold.Volume(h, f)
	expect(t, "Volume", r, e, volume, api.OK)
	r, e = hold.Mass(h, f)
	expect(t, "Mass", r, e, mass, api.OK)
	r, e = hold.Moment(h, f)
	expect(t, "Moment", r, e, moment, api.OK)
	r, e = hold.Heel(h, f)
	expect(t, "Heel", r, e, heel, api.OK)
	r, e = hold.Height(h, f)
	expect(t, "Height", r, e, height, api.OK)
	w, e := hold.Weight(h, f)
	expect(t, "Weight", w, e, api.Weight{Mass: mass, Along: h.Along, High: height}, api.OK)
}

func TestFills(t *testing.T) {
	r := rand.New(rand.NewSource(10))
	for _, h := range someHolds(r, 60) {
		for range 20 {
			f := randomFill(r, h)
			v, m := wantVolume(h, f), wantMoment(h, f)
			checkFill(t, h, f, v, wantDense(v, f.Density), m, wantDense(m, f.Density), wantHeight(h, f))
		}
	}
}

// fillFunctions are the functions that have a hold and a fill, by their errors.
func fillFunctions() map[string]func(h api.Hold, f api.Fill) (zero bool, e api.Errno) {
	l := map[string]func(h api.Hold, f api.Fill) (bool, api.Errno){}
	for what, f := range map[string]func(api.Hold, api.Fill) (api.Range, api.Errno){"Volume": hold.Volume, "Mass": hold.Mass, "Moment": hold.Moment, "Heel": hold.Heel, "Height": hold.Height} {
		l[what] = func(h api.Hold, x api.Fill) (bool, api.Errno) {
			r, e := f(h, x)
			return r == api.Range{}, e
		}
	}
	l["Weight"] = func(h api.Hold, f api.Fill) (bool, api.Errno) {
		w, e := hold.Weight(h, f)
		return w == api.Weight{}, e
	}
	l["Pour"] = func(h api.Hold, f api.Fill) (bool, api.Errno) {
		g, e := hold.Pour(h, f, span(1, 0), span(1, 0))
		return g == api.Fill{}, e
	}
	l["Draw"] = func(h api.Hold, f api.Fill) (bool, api.Errno) {
		g, e := hold.Draw(h, f, span(1, 0))
		return g == api.Fill{}, e
	}
	l["Settle"] = func(h api.Hold, f api.Fill) (bool, api.Errno) {
		g, e := hold.Settle(h, f, -1)
		return g == api.Fill{}, e
	}
	l["Between"] = func(h api.Hold, f api.Fill) (bool, api.Errno) {
		g, e := hold.Between(h, f, api.Fill{Hold: h.Id})
		return len(g) == 0, e
	}
	l["Between, the second one"] = func(h api.Hold, f api.Fill) (bool, api.Errno) {
		g, e := hold.Between(h, api.Fill{Hold: h.Id}, f)
		return len(g) == 0, e
	}
	l["Worst"] = func(h api.Hold, f api.Fill) (bool, api.Errno) {
		u, m, e := hold.Worst(h, f)
		return u == 0 && m == 0, e
	}
	l["CheckWorst"] = func(h api.Hold, f api.Fill) (bool, api.Errno) { return true, hold.CheckWorst(h, f, 0, 0) }
	return l
}

// TestNoFill has errors that each function names first, ahead of its own ones.
func TestNoFill(t *testing.T) {
	for what, f := range fillFunctions() {
		for _, h := range badHolds() {
			if zero, e := f(h, api.Fill{Hold: 77}); !zero || e != api.ErrHold {
				t.Errorf("%s of the hold %v: %v %d", what, h, zero, e)
			}
		}
		for _, x := range badFills() {
			if zero, e := f(exampleH(), x); !zero || e != api.ErrFill {
				t.Errorf("%s of the fill %v: %v %d", what, x, zero, e)
			}
		}
	}
}
