package hold_test

import (
	"math"
	"math/big"
	"math/rand"
	"reflect"
	"testing"

	"ullage/api"
	"ullage/hold"
)

// curve is a curve within a table: a number at each point, between them straight lines.
type curve struct {
	t api.Table
	y []int
}

// newCurve takes often the ends of the table's ranges.
func newCurve(r *rand.Rand, t api.Table) curve {
	c := curve{t: t}
	for _, p := range t.Points {
		y := p.Lo + r.Intn(p.Hi-p.Lo+1)
		switch r.Intn(3) {
		case 0:
			y = p.Lo
		case 1:
			y = p.Hi
		}
		c.y = append(c.y, y)
	}
	return c
}

// at is the exact value at a place of the domain.
func (c curve) at(x *big.Rat) *big.Rat {
	p := c.t.Points
	i := 1
	for x.Cmp(whole(p[i].X)) > 0 {
		i++
	}
	part := new(big.Rat).Sub(x, whole(p[i-1].X))
	part.Quo(part, whole(p[i].X-p[i-1].X))
	part.Mul(part, whole(c.y[i]-c.y[i-1]))
	return part.Add(part, whole(c.y[i-1]))
}

// within is a number of a range, which need not be whole.
func within(r *rand.Rand, all api.Range) *big.Rat {
	switch r.Intn(4) {
	case 0:
		return whole(all.Lo)
	case 1:
		return whole(all.Hi)
	}
	d := 1 + r.Intn(7)
	n := all.Lo*d + r.Intn((all.Hi-all.Lo)*d+1)
	return big.NewRat(int64(n), int64(d))
}

// around is a range that has a number.
func around(r *rand.Rand, v *big.Rat) api.Range {
	return span(down(v)-r.Intn(2)*r.Intn(9), up(v)+r.Intn(2)*r.Intn(9))
}

func expectHas(t *testing.T, what string, all api.Range, e api.Errno, v *big.Rat) {
	t.Helper()
	if e != api.OK || !has(all, v) {
		t.Errorf("%s: %v has no %s (%d)", what, all, v.RatString(), e)
	}
}

// TestBounds is P2.2 of holds.
func TestBounds(t *testing.T) {
	r := rand.New(rand.NewSource(60))
	for _, h := range someHolds(r, 100) {
		volume, moment, height := newCurve(r, h.Volume), newCurve(r, h.Moment), newCurve(r, h.Height)
		for range 20 {
			f := randomFill(r, h)
			v, m, z := whole(0), whole(0), whole(0)
			switch f.State {
			case api.Trimmed, api.Untrimmed:
				v, z = within(r, h.Volume0), within(r, h.Height0)
				m = within(r, map[int]api.Range{api.Trimmed: h.Trimmed, api.Untrimmed: h.Untrimmed}[f.State])
			case api.Partly, api.Strapped, api.Overstowed:
				u := within(r, f.Ullage)
				v, z = volume.at(u), height.at(u)
				if f.State == api.Partly {
					m = moment.at(u)
				}
			}
			d := within(r, f.Density)
			for _, c := range []struct {
				what string
				f    func(api.Hold, api.Fill) (api.Range, api.Errno)
				true *big.Rat
			}{{"Volume", hold.Volume, v}, {"Mass", hold.Mass, massOf(v, d)}, {"Moment", hold.Moment, m}, {"Heel", hold.Heel, massOf(m, d)}, {"Height", hold.Height, z}} {
				all, e := c.f(h, f)
				expectHas(t, c.what, all, e, c.true)
			}
			w, e := hold.Weight(h, f)
			expectHas(t, "Weight: Mass", w.Mass, e, massOf(v, d))
			expectHas(t, "Weight: High", w.High, e, z)
		}
	}
}

// TestTankBounds is P2.2 of tanks. A tank without a volume, and one that is pressed, has no free surface.
func TestTankBounds(t *testing.T) {
	r := rand.New(rand.NewSource(61))
	for _, x := range someTanks(r, 100) {
		volume, surface, height := newCurve(r, x.Volume), newCurve(r, x.Surface), newCurve(r, x.Height)
		for range 20 {
			l := randomLevel(r, x)
			s, d := within(r, l.Sounding), within(r, l.Density)
			v := volume.at(s)
			m := massOf(surface.at(s), d)
			if l.Pressed || v.Sign() == 0 {
				m = whole(0)
			}
			all, e := hold.Liquid(x, l)
			expectHas(t, "Liquid", all, e, massOf(v, d))
			all, e = hold.Surface(x, l)
			expectHas(t, "Surface", all, e, m)
			w, e := hold.Ballast(x, l)
			expectHas(t, "Ballast: Mass", w.Mass, e, massOf(v, d))
			expectHas(t, "Ballast: High", w.High, e, height.at(s))
		}
	}
}

// TestInverses is P2.3.
func TestInverses(t *testing.T) {
	r := rand.New(rand.NewSource(62))
	for _, h := range someHolds(r, 100) {
		volume, all := newCurve(r, h.Volume), ends(h.Volume)
		for range 20 {
			u, density := whole(all.Lo+r.Intn(all.Hi-all.Lo+1)), randomDensity(r)
			mass := massOf(volume.at(u), within(r, density))
			got, e := hold.Ullage(h, around(r, mass), density)
			expectHas(t, "Ullage", got, e, u)
			litres, e := hold.Litres(around(r, mass), density)
			expectHas(t, "Litres", litres, e, volume.at(u))
		}
	}
	for _, x := range someTanks(r, 100) {
		volume, all := newCurve(r, x.Volume), ends(x.Volume)
		for range 20 {
			s, density := whole(all.Lo+r.Intn(all.Hi-all.Lo+1)), randomDensity(r)
			mass := massOf(volume.at(s), within(r, density))
			got, e := hold.Sounding(x, around(r, mass), density)
			expectHas(t, "Sounding", got, e, s)
		}
	}
}

// wholeIn is a whole number of a range.
func wholeIn(r *rand.Rand, all api.Range) *big.Rat { return whole(all.Lo + r.Intn(all.Hi-all.Lo+1)) }

// TestPouring is P2.4: grain is poured until a whole ullage, or drawn.
func TestPouring(t *testing.T) {
	r := rand.New(rand.NewSource(63))
	poured, drawn := 0, 0
	for _, h := range someHolds(r, 200) {
		volume, all := newCurve(r, h.Volume), ends(h.Volume)
		for range 30 {
			f, density := fillIn(r, h, []int{api.Empty, api.Partly, api.Trimmed, api.Untrimmed}[r.Intn(4)]), randomDensity(r)
			from, v := whole(all.Hi), whole(0)
			switch f.State {
			case api.Partly:
				from = within(r, f.Ullage)
				v = volume.at(from)
			case api.Trimmed, api.Untrimmed:
				from, v = whole(all.Lo), within(r, h.Volume0)
			}
			to := wholeIn(r, all)
			change := new(big.Rat).Sub(volume.at(to), v)
			filled := f.State == api.Trimmed || f.State == api.Untrimmed
			if !filled && change.Sign() >= 0 && to.Cmp(from) <= 0 {
				poured++
				d := within(r, density)
				g, e := hold.Pour(h, f, aroundMass(r, massOf(change, d)), density)
				expectHas(t, "Pour", g.Ullage, e, to)
			}
			if f.State != api.Empty && change.Sign() <= 0 && to.Cmp(from) >= 0 {
				drawn++
				d := within(r, f.Density)
				g, e := hold.Draw(h, f, aroundMass(r, massOf(change.Neg(change), d)))
				expectHas(t, "Draw", g.Ullage, e, to)
			}
		}
	}
	if poured < 1000 || drawn < 1000 {
		t.Error("too few cases:", poured, drawn)
	}
}

// aroundMass is a range of masses that are not below 0.
func aroundMass(r *rand.Rand, v *big.Rat) api.Range {
	m := around(r, v)
	return span(max(m.Lo, 0), m.Hi)
}

// TestPumping is P2.4's way with tanks: a level to which liquid is pumped is within Pump's.
func TestPumping(t *testing.T) {
	r := rand.New(rand.NewSource(64))
	for _, x := range someTanks(r, 100) {
		volume, all := newCurve(r, x.Volume), ends(x.Volume)
		for range 20 {
			l := randomLevel(r, x)
			from, to, d := within(r, l.Sounding), wholeIn(r, all), within(r, l.Density)
			change := new(big.Rat).Sub(volume.at(to), volume.at(from))
			g, e := hold.Pump(x, l, around(r, massOf(change, d)))
			expectHas(t, "Pump", g.Sounding, e, to)
		}
	}
}

// TestEachInstant is P2.5.
func TestEachInstant(t *testing.T) {
	r := rand.New(rand.NewSource(65))
	for _, h := range someHolds(r, 100) {
		moment, volume := newCurve(r, h.Moment), ends(h.Volume)
		surface := func(f api.Fill) *big.Rat {
			switch f.State {
			case api.Empty:
				return whole(volume.Hi)
			case api.Trimmed, api.Untrimmed:
				return whole(volume.Lo)
			}
			return within(r, f.Ullage)
		}
		for range 20 {
			f, g := randomFill(r, h), randomFill(r, h)
			l, e := hold.Between(h, f, g)
			if e != api.OK {
				t.Fatal(e)
			}
			m, d := wantMoment(h, f), f.Density
			v := []*big.Rat{whole(m.Lo), whole(m.Hi)}
			if f.State != g.State || f.State == api.Partly {
				v = append(v, moment.at(between(r, surface(f), surface(g))))
			}
			if f.State == api.Empty || g.State != api.Empty && r.Intn(2) == 0 {
				d = g.Density
			}
			for _, x := range v {
				expectOne(t, h, l, x, d)
			}
		}
	}
}

// between is a number between two ones.
func between(r *rand.Rand, a, b *big.Rat) *big.Rat {
	part := new(big.Rat).Sub(b, a)
	part.Mul(part, big.NewRat(int64(r.Intn(9)), 8))
	return part.Add(part, a)
}

// expectOne expects a fill that has a moment, and, of a fill that is under way, a density.
func expectOne(t *testing.T, h api.Hold, l []api.Fill, v *big.Rat, density api.Range) {
	t.Helper()
	found := false
	for i, f := range l {
		all, e := hold.Moment(h, f)
		if e != api.OK {
			t.Errorf("fill %d of %v: %d", i, l, e)
		}
		found = found || has(all, v)
		if (i == 1 || len(l) == 1) && !inside(density, f.Density) {
			t.Errorf("fill %d of %v does not have the density %v", i, l, density)
		}
	}
	if !found {
		t.Errorf("no fill of %v has the moment %s", l, v.RatString())
	}
}

// narrower is a range within another one.
func narrower(r *rand.Rand, a api.Range) api.Range { return randomSpan(r, a.Lo, a.Hi) }

func narrowerFill(r *rand.Rand, f api.Fill) api.Fill {
	f.Ullage, f.Density = narrower(r, f.Ullage), narrower(r, f.Density)
	return f
}

func narrowerLevel(r *rand.Rand, l api.Level) api.Level {
	l.Sounding, l.Density = narrower(r, l.Sounding), narrower(r, l.Density)
	return l
}

// expectInside expects a result within the one of wider arguments, or that there is no room.
func expectInside(t *testing.T, what string, a api.Range, e api.Errno, b api.Range, wideE api.Errno) {
	t.Helper()
	if e == api.OK && wideE == api.OK {
		if !inside(a, b) {
			t.Errorf("%s: %v is not within %v", what, a, b)
		}
		return
	}
	if e != wideE && e != api.ErrRoom {
		t.Errorf("%s: %d, but %d if wider", what, e, wideE)
	}
}

func insideWeight(a, b api.Weight) bool {
	return inside(a.Mass, b.Mass) && inside(a.Along, b.Along) && inside(a.High, b.High)
}

// TestNarrower is P2.7.
func TestNarrower(t *testing.T) {
	r := rand.New(rand.NewSource(66))
	for _, h := range someHolds(r, 100) {
		for range 20 {
			f, density, m := randomFill(r, h), randomDensity(r), aMass(r, h.Volume.Points[0].Hi)
			m.Lo, m.Hi = max(m.Lo, 0), max(m.Hi, 0)
			f1, density1, m1 := narrowerFill(r, f), narrower(r, density), narrower(r, m)
			for what, tell := range map[string]func(api.Hold, api.Fill) (api.Range, api.Errno){"Volume": hold.Volume, "Mass": hold.Mass, "Moment": hold.Moment, "Heel": hold.Heel, "Height": hold.Height} {
				a, e := tell(h, f1)
				b, e2 := tell(h, f)
				expectInside(t, what, a, e, b, e2)
			}
			w1, _ := hold.Weight(h, f1)
			if w, _ := hold.Weight(h, f); !insideWeight(w1, w) {
				t.Errorf("Weight: %v is not within %v", w1, w)
			}
			a, e := hold.Litres(m1, density1)
			b, e2 := hold.Litres(m, density)
			expectInside(t, "Litres", a, e, b, e2)
			a, e = hold.Ullage(h, m1, density1)
			b, e2 = hold.Ullage(h, m, density)
			expectInside(t, "Ullage", a, e, b, e2)
			p1, e := hold.Pour(h, f1, m1, density1)
			p, e2 := hold.Pour(h, f, m, density)
			expectInside(t, "Pour", p1.Ullage, e, p.Ullage, e2)
			expectInside(t, "Pour: Density", p1.Density, e, p.Density, e2)
			p1, e = hold.Draw(h, f1, m1)
			p, e2 = hold.Draw(h, f, m)
			expectInside(t, "Draw", p1.Ullage, e, p.Ullage, e2)
			p1, e = hold.Settle(h, f1, 3)
			p, e2 = hold.Settle(h, f, 3)
			expectInside(t, "Settle", p1.Ullage, e, p.Ullage, e2)
			_, worst1, _ := hold.Worst(h, f1)
			if _, worst, _ := hold.Worst(h, f); worst1 > worst {
				t.Errorf("Worst: %d is more than %d", worst1, worst)
			}
		}
	}
}

// TestNarrowerTanks is P2.7 of tanks, and of all together.
func TestNarrowerTanks(t *testing.T) {
	r := rand.New(rand.NewSource(67))
	for _, x := range someTanks(r, 100) {
		for range 20 {
			l, density, m := randomLevel(r, x), randomDensity(r), aMass(r, x.Volume.Points[len(x.Volume.Points)-1].Hi)
			l1, density1, m1 := narrowerLevel(r, l), narrower(r, density), narrower(r, m)
			a, e := hold.Liquid(x, l1)
			b, e2 := hold.Liquid(x, l)
			expectInside(t, "Liquid", a, e, b, e2)
			a, e = hold.Surface(x, l1)
			b, e2 = hold.Surface(x, l)
			expectInside(t, "Surface", a, e, b, e2)
			w1, _ := hold.Ballast(x, l1)
			if w, _ := hold.Ballast(x, l); !insideWeight(w1, w) {
				t.Errorf("Ballast: %v is not within %v", w1, w)
			}
			a, e = hold.Sounding(x, m1, density1)
			b, e2 = hold.Sounding(x, m, density)
			expectInside(t, "Sounding", a, e, b, e2)
			p1, e := hold.Pump(x, l1, m1)
			p, e2 := hold.Pump(x, l, m)
			expectInside(t, "Pump", p1.Sounding, e, p.Sounding, e2)
		}
	}
	for range 200 {
		c := randomCompartments(r, 4, 4)
		wide, _ := c.load()
		for i := range c.f {
			c.f[i], c.l[i] = narrowerFill(r, c.f[i]), narrowerLevel(r, c.l[i])
		}
		narrow, _ := c.load()
		if !inside(narrow.Surface, wide.Surface) || !inside(narrow.Shift, wide.Shift) || len(narrow.Weights) != len(wide.Weights) {
			t.Errorf("Load: %v is not within %v", narrow, wide)
		}
		for i, w := range narrow.Weights {
			if !insideWeight(w, wide.Weights[i]) {
				t.Errorf("Load: %v is not within %v", w, wide.Weights[i])
			}
		}
	}
}

// spare is an equal table with room behind its points, where a careless append would write.
func spare(t api.Table) api.Table {
	l := make([]api.Point, len(t.Points), len(t.Points)+5)
	copy(l, t.Points)
	return api.Table{Points: l}
}

// TestMemory is R4: no argument is changed, and no result shares memory with one.
func TestMemory(t *testing.T) {
	r := rand.New(rand.NewSource(68))
	c, same := randomCompartments(r, 4, 4), compartments{}
	c.f[0] = fillIn(r, c.h[0], api.Partly)
	for i, h := range c.h {
		h.Volume, h.Moment, h.Height = spare(h.Volume), spare(h.Moment), spare(h.Height)
		same.h, same.f = append(same.h, h), append(same.f, c.f[i])
		x := c.t[i]
		x.Volume, x.Surface, x.Height = spare(x.Volume), spare(x.Surface), spare(x.Height)
		same.t, same.l = append(same.t, x), append(same.l, c.l[i])
	}
	all, _ := same.load()
	again, _ := same.load()
	for i := range all.Weights {
		all.Weights[i] = api.Weight{}
	}
	for i, f := range same.f {
		l, _ := hold.Between(same.h[i], f, same.f[0])
		for j := range l {
			l[j] = api.Fill{}
		}
		for _, do := range fillFunctions() {
			do(same.h[i], f)
		}
		hold.Pour(same.h[i], f, span(1, 2), exampleD())
		hold.Draw(same.h[i], f, span(1, 2))
		hold.Settle(same.h[i], f, 1)
		hold.Pump(same.t[i], same.l[i], span(1, 2))
	}
	if !reflect.DeepEqual(c, same) {
		t.Error("an argument is changed")
	}
	if once, _ := same.load(); !reflect.DeepEqual(again, once) {
		t.Error("a result was changed through another one, or is not the same again")
	}
}

// TestNothingPanics has arguments that are far from valid in each place.
func TestNothingPanics(t *testing.T) {
	var spans []api.Range
	numbers := []int{math.MinInt, -1, 0, 1, 100, api.MaxWide, math.MaxInt}
	for _, a := range numbers {
		for _, b := range numbers {
			spans = append(spans, span(a, b))
		}
	}
	holds := append(badHolds(), exampleH(), wildH(), greatH(), api.Hold{})
	tanks := append(badTanks(), exampleT(), wildT(), greatT(), api.Tank{})
	for i, a := range spans {
		b := spans[(i*11+3)%len(spans)]
		for j, h := range holds {
			f := api.Fill{Hold: h.Id, State: j % 7, Ullage: a, Density: b}
			for _, do := range fillFunctions() {
				do(h, f)
			}
			hold.Litres(a, b)
			hold.Ullage(h, a, b)
			for _, f := range append(held(), exampleP(), emptyH(), fullH()) {
				f.Hold = h.Id
				hold.Pour(h, f, a, b)
				hold.Draw(h, f, a)
				hold.Settle(h, f, a.Lo)
				hold.CheckWorst(h, f, a.Lo, a.Hi)
			}
		}
		for _, x := range tanks {
			l := api.Level{Tank: x.Id, Pressed: i%2 == 0, Sounding: a, Density: b}
			hold.CheckLevel(x, l)
			hold.Liquid(x, l)
			hold.Surface(x, l)
			hold.Ballast(x, l)
			hold.Sounding(x, a, b)
			l = exampleL()
			l.Tank = x.Id
			hold.Pump(x, l, a)
			hold.Load(holds[i:i+1], []api.Fill{{}}, []api.Tank{x}, []api.Level{l})
		}
	}
}
