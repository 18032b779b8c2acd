package cond_test

import (
	"math"
	"math/big"
	"math/rand"
	"reflect"
	"testing"

	"ullage/api"
	"ullage/cond"
	"ullage/fix"
)

// curve is a curve within a table: a number at each point, between them straight lines.
type curve struct {
	t api.Table
	y []*big.Rat
}

// within is a number of a range, which need not be whole; often it is an end.
func within(r *rand.Rand, all api.Range) *big.Rat {
	switch r.Intn(4) {
	case 0:
		return whole(all.Lo)
	case 1:
		return whole(all.Hi)
	}
	d := 1 + r.Intn(7)
	return big.NewRat(int64(all.Lo*d+r.Intn((all.Hi-all.Lo)*d+1)), int64(d))
}

func newCurve(r *rand.Rand, t api.Table) curve {
	c := curve{t: t}
	for _, p := range t.Points {
		c.y = append(c.y, within(r, span(p.Lo, p.Hi)))
	}
	return c
}

// at is the exact value at a place of the domain.
func (c curve) at(x *big.Rat) *big.Rat {
	p := c.t.Points
	for i := range p {
		if x.Cmp(whole(p[i].X)) == 0 {
			return c.y[i]
		}
		if i > 0 && x.Cmp(whole(p[i].X)) < 0 {
			part := by(minus(x, whole(p[i-1].X)), whole(p[i].X-p[i-1].X))
			return sum(c.y[i-1], times(part, minus(c.y[i], c.y[i-1])))
		}
	}
	panic("outside of the domain")
}

// twiceArea is the exact one, from a to b.
func (c curve) twiceArea(a, b int) *big.Rat {
	all, last := whole(0), a
	for _, p := range append(c.t.Points, api.Point{X: b}) {
		if p.X > last && p.X <= b {
			ends := sum(c.at(whole(last)), c.at(whole(p.X)))
			all = sum(all, times(ends, whole(p.X-last)))
			last = p.X
		}
	}
	return all
}

// truth is what a ship with a load is exactly, if all is known.
type truth struct {
	mass, along, high, surface, shift    *big.Rat
	drafts, heights, centres, trims      curve
	arms                                 []curve
	sine, fall                           curve
	tonnes                               []int // of the arms
	draft, trim, fore, aft, metric, lift *big.Rat
}

func newTruth(r *rand.Rand, s api.Ship, l api.Load) truth {
	v := truth{mass: whole(0), along: whole(0), high: whole(0), surface: within(r, l.Surface), shift: within(r, l.Shift)}
	for _, w := range append([]api.Weight{s.Light}, l.Weights...) {
		m := within(r, w.Mass)
		v.mass = sum(v.mass, m)
		v.along = sum(v.along, times(m, within(r, w.Along)))
		v.high = sum(v.high, times(m, within(r, w.High)))
	}
	v.along, v.high = by(v.along, v.mass), by(v.high, v.mass)
	v.lift = sum(v.high, by(v.surface, v.mass))
	v.drafts, v.heights, v.centres, v.trims = newCurve(r, s.Drafts), newCurve(r, s.Heights), newCurve(r, s.Centres), newCurve(r, s.Trims)
	v.sine, v.fall = newCurve(r, s.Sine), newCurve(r, s.Shift)
	for _, c := range s.Cross {
		v.arms = append(v.arms, newCurve(r, c.Arms))
		v.tonnes = append(v.tonnes, c.Tonnes)
	}
	return v
}

// displacement is in tonnes.
func (v truth) displacement() *big.Rat { return by(v.mass, whole(1000)) }

// trimmed is the exact trim.
func (v truth) trimmed() *big.Rat {
	x := v.displacement()
	moment := times(v.mass, minus(v.along, v.centres.at(x)))
	return by(moment, times(whole(1000), v.trims.at(x)))
}

// righting is the exact arm at an angle.
func (v truth) righting(x int) *big.Rat {
	across := curve{}
	for i, c := range v.arms {
		across.t.Points = append(across.t.Points, api.Point{X: v.tonnes[i]})
		across.y = append(across.y, c.at(whole(x)))
	}
	down := by(times(v.lift, v.sine.at(whole(x))), whole(1000000))
	return minus(across.at(v.displacement()), down)
}

// heeling is the exact arm of the shift at an angle.
func (v truth) heeling(x int) *big.Rat {
	return by(times(by(v.shift, v.mass), v.fall.at(whole(x))), whole(1000))
}

func expectHas(t *testing.T, what string, all api.Range, v *big.Rat) {
	t.Helper()
	if !has(all, v) {
		t.Errorf("%s: %v has no %s", what, all, v.RatString())
	}
}

// TestBounds is P3.2.
func TestBounds(t *testing.T) {
	r := rand.New(rand.NewSource(60))
	arms := 0
	for _, x := range trials(61, 100) {
		w, _ := cond.Total(x.s, x.l)
		tonnes, _ := cond.Tonnes(x.s, x.l)
		draft, draftE := cond.Draft(x.s, x.l)
		trim, trimE := cond.Trim(x.s, x.l)
		fore, aft, endsE := cond.Ends(x.s, x.l)
		metric, metricE := cond.Metric(x.s, x.l)
		righting, rightingE := cond.Righting(x.s, x.l)
		heeling, heelingE := cond.Heeling(x.s, x.l)
		margin, marginE := cond.Margin(x.s, x.l)
		for range 8 {
			v := newTruth(r, x.s, x.l)
			expectHas(t, "Mass", w.Mass, v.mass)
			expectHas(t, "Along", w.Along, v.along)
			expectHas(t, "High", w.High, v.high)
			expectHas(t, "Tonnes", tonnes, v.displacement())
			if draftE == api.OK {
				expectHas(t, "Draft", draft, v.drafts.at(v.displacement()))
			}
			if trimE == api.OK {
				expectHas(t, "Trim", trim, v.trimmed())
			}
			if endsE == api.OK {
				half := by(v.trimmed(), whole(2))
				expectHas(t, "Ends: fore", fore, sum(v.drafts.at(v.displacement()), half))
				expectHas(t, "Ends: aft", aft, minus(v.drafts.at(v.displacement()), half))
			}
			if metricE == api.OK {
				expectHas(t, "Metric", metric, minus(v.heights.at(v.displacement()), v.lift))
			}
			for _, a := range someAngles(r, x.s) {
				if heelingE == api.OK {
					expectHas(t, "Heeling", atOf(heeling, a), v.heeling(a))
				}
				if rightingE == api.OK {
					expectHas(t, "Righting", atOf(righting, a), v.righting(a))
				}
				if marginE == api.OK {
					arms++
					expectHas(t, "Margin", atOf(margin, a), minus(v.righting(a), v.heeling(a)))
				}
			}
		}
	}
	if arms < 1000 {
		t.Error("too few cases:", arms)
	}
}

// someAngles are angles of a ship.
func someAngles(r *rand.Rand, s api.Ship) []int {
	all := wantAngles(s)
	l := []int{all[0], all[len(all)-1]}
	for range 8 {
		l = append(l, all[r.Intn(len(all))])
	}
	return l
}

// TestCertificates is P3.4: what is accepted bounds the area of all curves, and Rest.
func TestCertificates(t *testing.T) {
	accepted := 0
	certTrials(t, 62, func(r *rand.Rand, x trial, most int, m api.Table, all api.Range) {
		rest, e := cond.Rest(x.s, x.l, most)
		if e != api.OK {
			t.Fatal("Rest:", e)
		}
		margin, _ := cond.Margin(x.s, x.l)
		for range 6 {
			c := randomCert(r, m, all)
			need := wantShown(c) - r.Intn(3)
			if cond.Check(x.s, x.l, most, need, c) != api.OK {
				continue
			}
			accepted++
			if n, e := cond.Shown(c); n > rest.Lo || e != api.OK {
				t.Errorf("Shown %d %d is more than Rest %v", n, e, rest)
			}
			for range 3 {
				area := newCurve(r, margin).twiceArea(all.Lo, all.Hi)
				expectHas(t, "Rest", rest, area)
				if area.Cmp(whole(need)) < 0 {
					t.Errorf("%d is shown by %v, but there is %s", need, c, area.RatString())
				}
			}
		}
	})
	if accepted < 300 {
		t.Error("too few cases:", accepted)
	}
}

// TestLesserNeed is P3.6.
func TestLesserNeed(t *testing.T) {
	certTrials(t, 63, func(r *rand.Rand, x trial, most int, m api.Table, all api.Range) {
		c := wantPlain(m, all)
		shown := wantShown(c)
		for _, need := range []int{shown, shown - 1, min(shown, 0), shown - r.Intn(api.MaxY), -api.MaxNeed, max(-api.MaxNeed, shown-api.MaxNeed)} {
			if e := cond.Check(x.s, x.l, most, need, c); e != api.OK {
				t.Errorf("%v, which shows %d, for %d: %d", c, shown, need, e)
			}
		}
	})
}

// told is all that is told of a ship with a load, by names: ranges, and those of tables at angles.
func told(s api.Ship, l api.Load) map[string]api.Range {
	all := map[string]api.Range{}
	add := func(name string, r api.Range, e api.Errno) {
		if e == api.OK {
			all[name] = r
		}
	}
	w, e := cond.Total(s, l)
	add("mass", w.Mass, e)
	add("along", w.Along, e)
	add("high", w.High, e)
	for name, f := range map[string]func(api.Ship, api.Load) (api.Range, api.Errno){"Tonnes": cond.Tonnes, "Draft": cond.Draft, "Trim": cond.Trim, "Metric": cond.Metric, "Heel": cond.Heel} {
		r, e := f(s, l)
		add(name, r, e)
	}
	fore, aft, e := cond.Ends(s, l)
	add("Ends: fore", fore, e)
	add("Ends: aft", aft, e)
	for name, f := range map[string]func(api.Ship, api.Load) (api.Table, api.Errno){"Righting": cond.Righting, "Heeling": cond.Heeling, "Margin": cond.Margin} {
		u, e := f(s, l)
		if e != api.OK {
			continue
		}
		first, last := ends(u).Lo, ends(u).Hi
		for i := range 9 {
			x := first + (last-first)*i/8
			r, e := fix.At(u, x)
			add(name+string(rune('0'+i)), r, e)
		}
	}
	facts, _ := cond.Facts(s, l, 300)
	for _, f := range facts {
		add(f.Name, f.Value, api.OK)
	}
	return all
}

// expectNarrower expects all that is told of a wider load, within it.
func expectNarrower(t *testing.T, s api.Ship, narrow, wide api.Load) int {
	t.Helper()
	a, b := told(s, narrow), told(s, wide)
	for name, r := range b {
		if v, ok := a[name]; !ok || !inside(v, r) {
			t.Errorf("%s: %v (%v) is not within %v", name, v, ok, r)
		}
	}
	return len(b)
}

// TestInstants is P3.5.
func TestInstants(t *testing.T) {
	r := rand.New(rand.NewSource(64))
	n := 0
	for _, x := range trials(65, 60) {
		for _, far := range []int{1, 40, 3000} {
			n += expectNarrower(t, x.s, x.l, widerLoad(r, x.l, far))
		}
		other := widerLoad(r, x.l, 99)
		for i := range other.Weights {
			other.Weights[i].Along = randomSpan(r, -99, 99)
			other.Weights[i].High = randomSpan(r, 0, 99)
		}
		hull, e := cond.Hull(x.l, other)
		if e != api.OK {
			t.Fatal("Hull:", e)
		}
		for _, l := range []api.Load{x.l, other, somewhere(r, hull)} {
			n += expectNarrower(t, x.s, l, hull)
		}
		if narrow, e := cond.Narrow(x.l, other); e == api.OK {
			n += expectNarrower(t, x.s, narrow, x.l)
			n += expectNarrower(t, x.s, narrow, other)
		}
	}
	if n < 10000 {
		t.Error("too few cases:", n)
	}
}

// somewhere has one number of each range.
func somewhere(r *rand.Rand, l api.Load) api.Load {
	pick := func(a api.Range) api.Range { return one(a.Lo + r.Intn(a.Hi-a.Lo+1)) }
	at := api.Load{Surface: pick(l.Surface), Shift: pick(l.Shift)}
	for _, w := range l.Weights {
		at.Weights = append(at.Weights, api.Weight{Mass: pick(w.Mass), Along: pick(w.Along), High: pick(w.High)})
	}
	return at
}

// spare is an equal list with room behind it, where a careless append would write.
func spare[T any](l []T) []T { return append(make([]T, 0, len(l)+5), l...) }

// TestMemory is R4: no argument is changed, and no result shares memory with one, or with another one.
func TestMemory(t *testing.T) {
	s := copyOf(exampleS())
	for _, u := range []*api.Table{&s.Drafts, &s.Heights, &s.Centres, &s.Trims, &s.Flood, &s.Sine, &s.Shift, &s.Cross[0].Arms, &s.Cross[1].Arms} {
		u.Points = spare(u.Points)
	}
	s.Cross = spare(s.Cross)
	l := exampleL()
	l.Weights = spare(append(l.Weights, api.Weight{Mass: span(0, 7), Along: one(-50), High: one(9)}))
	c := api.Cert{Points: spare(cert(20, 1, 400, 1920).Points)}
	sameL, sameC := exampleL(), cert(20, 1, 400, 1920)
	sameL.Weights = append(sameL.Weights, api.Weight{Mass: span(0, 7), Along: one(-50), High: one(9)})
	unchanged := func(what string) {
		t.Helper()
		if !reflect.DeepEqual(s, exampleS()) || !reflect.DeepEqual(l, sameL) || !reflect.DeepEqual(c, sameC) {
			t.Fatalf("%s: an argument is changed", what)
		}
	}
	for _, f := range calls() {
		f.do(s, l, 400)
		unchanged(f.name)
	}
	cond.Sum(l.Weights)
	cond.Check(s, l, 400, 0, c)
	cond.Shown(c)
	unchanged("Sum, Check, Shown")
	for what, f := range map[string]func(api.Ship, api.Load) (api.Table, api.Errno){"Righting": cond.Righting, "Heeling": cond.Heeling, "Margin": cond.Margin} {
		a, _ := f(s, l)
		b, _ := f(s, l)
		clear(a.Points)
		again, _ := f(s, l)
		expectTable(t, what, b, api.OK, again, api.OK)
		unchanged(what)
	}
	for what, f := range map[string]func(a, b api.Load) (api.Load, api.Errno){"Hull": cond.Hull, "Narrow": cond.Narrow} {
		a, _ := f(l, l)
		expectLoad(t, what, a, api.OK, l, api.OK)
		clear(a.Weights)
		unchanged(what)
	}
	p, _ := cond.Prove(s, l, 400, 0)
	clear(p.Points)
	facts, _ := cond.Facts(s, l, 400)
	clear(facts)
	unchanged("Prove, Facts")
}

// TestNothingPanics has arguments that are far from valid in each place.
func TestNothingPanics(t *testing.T) {
	numbers := []int{math.MinInt, -1, 0, 1, 400, api.MaxAngle, api.MaxWide, math.MaxInt}
	ships := append(badShips(), exampleS(), greatS(), api.Ship{})
	loads := append(badLoads(), exampleL(), api.Load{})
	certs := append(badCerts(), cert(20, 1, 400, 1920), cert(0, 1, 900, 5), stairs(api.MaxCert+9, math.MinInt))
	i := 0
	ask := func(s api.Ship, l api.Load) {
		i++
		n, m, c := numbers[i%len(numbers)], numbers[i/3%len(numbers)], certs[i%len(certs)]
		for _, f := range calls() {
			f.do(s, l, n)
		}
		cond.Prove(s, l, n, m)
		cond.Check(s, l, n, m, c)
		cond.Shown(c)
		cond.Sum(append(l.Weights, s.Light))
		cond.Hull(l, loads[i%len(loads)])
		cond.Narrow(l, loads[i%len(loads)])
	}
	for j, s := range ships {
		ask(s, loads[j%len(loads)])
		ask(s, exampleL())
	}
	for _, l := range loads {
		ask(exampleS(), l)
		ask(greatS(), l)
	}
}
