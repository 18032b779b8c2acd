package hold_test

import (
	"math/rand"
	"testing"

	"ullage/api"
	"ullage/hold"
)

func TestTankExamples(t *testing.T) {
	x, l := exampleT(), exampleL()
	full := api.Level{Tank: 2, Pressed: true, Sounding: one(100), Density: l.Density}
	open := full
	open.Pressed = false
	bottom := api.Level{Tank: 2, Sounding: one(0), Density: l.Density}
	some := api.Level{Tank: 2, Sounding: span(0, 10), Density: l.Density}
	for _, c := range []struct {
		what                  string
		l                     api.Level
		liquid, surface, high api.Range
	}{
		{"a level", l, span(200, 410), span(32, 35), span(9, 18)},
		{"full and pressed", full, span(2000, 2050), api.Range{}, one(90)},
		{"full and not pressed", open, span(2000, 2050), span(50, 52), one(90)},
		{"empty", bottom, api.Range{}, api.Range{}, api.Range{}},
		{"perhaps empty", some, span(0, 205), span(0, 33), span(0, 9)},
	} {
		expectLevel(t, c.what, x, c.l, c.liquid, c.surface, c.high)
	}
}

func expectLevel(t *testing.T, what string, x api.Tank, l api.Level, liquid, surface, high api.Range) {
	t.Helper()
	r, e := hold.Liquid(x, l)
	expect(t, "Liquid, "+what, r, e, liquid, api.OK)
	r, e = hold.Surface(x, l)
	expect(t, "Surface, "+what, r, e, surface, api.OK)
	w, e := hold.Ballast(x, l)
	expect(t, "Ballast, "+what, w, e, api.Weight{Mass: liquid, Along: x.Along, High: high}, api.OK)
}

// TestNearlyEmpty has tanks of which the table does not say surely that they are empty.
func TestNearlyEmpty(t *testing.T) {
	x, d := wildT(), one(1000)
	// The volume may be 0 up to a sounding of 9, and surely is at 5.
	expectLevel(t, "surely empty", x, api.Level{Tank: 4, Sounding: one(5), Density: d}, one(0), one(0), span(0, 3))
	expectLevel(t, "perhaps empty", x, api.Level{Tank: 4, Sounding: one(9), Density: d}, span(0, 40), span(0, 20), span(7, 10))
	expectLevel(t, "not empty", x, api.Level{Tank: 4, Sounding: one(13), Density: d}, span(23, 51), span(0, 30), span(15, 17))
	x.Surface = tableOf([3]int{5, 8, 9}, [3]int{21, 8, 9})
	expectLevel(t, "perhaps empty", x, api.Level{Tank: 4, Sounding: one(9), Density: d}, span(0, 40), span(0, 9), span(7, 10))
	expectLevel(t, "not empty", x, api.Level{Tank: 4, Sounding: one(10), Density: d}, span(5, 43), span(8, 9), span(9, 12))
}

// wantSurface is what the chapter says of the free surface.
func wantSurface(x api.Tank, l api.Level) api.Range {
	v := overOf(x.Volume, l.Sounding)
	if l.Pressed || v.Hi == 0 {
		return api.Range{}
	}
	s := wantDense(overOf(x.Surface, l.Sounding), l.Density)
	if v.Lo == 0 {
		s.Lo = 0
	}
	return s
}

func TestLevels(t *testing.T) {
	r := rand.New(rand.NewSource(40))
	for _, x := range someTanks(r, 60) {
		for range 20 {
			l := randomLevel(r, x)
			expectLevel(t, "a level", x, l, wantDense(overOf(x.Volume, l.Sounding), l.Density), wantSurface(x, l), overOf(x.Height, l.Sounding))
		}
	}
}

func TestPumpExamples(t *testing.T) {
	x, d := exampleT(), one(1000)
	at := func(lo, hi int) api.Level { return api.Level{Tank: 2, Sounding: span(lo, hi), Density: d} }
	full := api.Level{Tank: 2, Pressed: true, Sounding: one(100), Density: d}
	for _, c := range []struct {
		what string
		l    api.Level
		mass api.Range
		want api.Level
		e    api.Errno
	}{
		{"in", at(10, 20), one(200), at(19, 31), api.OK},
		{"out", at(10, 20), one(-200), at(0, 11), api.OK},
		{"in or out", at(10, 20), span(-100, 100), at(4, 26), api.OK},
		{"nothing", at(10, 20), one(0), at(9, 21), api.OK},
		{"out of a full one", full, one(-1000), at(49, 51), api.OK},
		{"nothing into a full one", full, one(0), at(99, 100), api.OK},
		{"into a full one", full, one(1), api.Level{}, api.ErrRoom},
		{"perhaps too much", at(10, 20), span(1800, 9999), at(99, 100), api.OK},
		{"too much", at(10, 20), one(1801), api.Level{}, api.ErrRoom},
		{"all", at(10, 20), one(-400), at(0, 1), api.OK},
		{"more than all", at(10, 20), one(-401), api.Level{}, api.ErrRoom},
		{"perhaps more than all", at(10, 20), span(-api.MaxWide, -399), at(0, 1), api.OK},
		{"anything", at(10, 20), span(-api.MaxWide, api.MaxWide), at(0, 100), api.OK},
	} {
		got, e := hold.Pump(x, c.l, c.mass)
		expect(t, c.what, got, e, c.want, c.e)
	}
	// A table that begins above 0: whoever pumps all out of it has less than it tells.
	x.Volume = line(100, 2000)
	got, e := hold.Pump(x, at(0, 0), one(-1))
	expect(t, "below the table", got, e, api.Level{}, api.ErrRoom)
}

// wantPump is what the chapter says of Pump, for arguments that are valid.
func wantPump(x api.Tank, l api.Level, mass api.Range) (api.Level, api.Errno) {
	v, more := overOf(x.Volume, l.Sounding), wantLitres(mass, l.Density)
	v = span(max(0, v.Lo+more.Lo), v.Hi+more.Hi)
	if v.Hi < 0 {
		return api.Level{}, api.ErrRoom
	}
	r, ok := wantInverse(x.Volume, v, false)
	if !ok {
		return api.Level{}, api.ErrRoom
	}
	return api.Level{Tank: x.Id, Sounding: r, Density: l.Density}, api.OK
}

func TestPump(t *testing.T) {
	r := rand.New(rand.NewSource(41))
	for _, x := range someTanks(r, 150) {
		if !small(x.Volume) {
			continue
		}
		for range 40 {
			l := randomLevel(r, x)
			m := aMass(r, x.Volume.Points[len(x.Volume.Points)-1].Hi)
			if r.Intn(2) == 0 {
				m = span(-m.Hi, -m.Lo)
			}
			want, wantE := wantPump(x, l, m)
			got, e := hold.Pump(x, l, m)
			expect(t, "Pump", got, e, want, wantE)
			if e == api.OK && hold.CheckLevel(x, got) != api.OK {
				t.Error("Pump makes no level:", got)
			}
		}
	}
}

// TestNoLevel has errors that each function names first, ahead of its own ones.
func TestNoLevel(t *testing.T) {
	for what, f := range map[string]func(x api.Tank, l api.Level) (bool, api.Errno){
		"Liquid": func(x api.Tank, l api.Level) (bool, api.Errno) { r, e := hold.Liquid(x, l); return r == api.Range{}, e },
		"Surface": func(x api.Tank, l api.Level) (bool, api.Errno) {
			r, e := hold.Surface(x, l)
			return r == api.Range{}, e
		},
		"Ballast": func(x api.Tank, l api.Level) (bool, api.Errno) {
			r, e := hold.Ballast(x, l)
			return r == api.Weight{}, e
		},
		"Pump": func(x api.Tank, l api.Level) (bool, api.Errno) {
			r, e := hold.Pump(x, l, span(1, 0))
			return r == api.Level{}, e
		},
	} {
		for _, x := range badTanks() {
			if zero, e := f(x, api.Level{Tank: 77}); !zero || e != api.ErrTank {
				t.Errorf("%s of the tank %v: %v %d", what, x, zero, e)
			}
		}
		for _, l := range badLevels() {
			if zero, e := f(exampleT(), l); !zero || e != api.ErrLevel {
				t.Errorf("%s of the level %v: %v %d", what, l, zero, e)
			}
		}
	}
}
