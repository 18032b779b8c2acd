package hold_test

import (
	"math/rand"
	"reflect"
	"testing"

	"ullage/api"
	"ullage/hold"
)

func expectLoad(t *testing.T, what string, got api.Load, e api.Errno, want api.Load, wantE api.Errno) {
	t.Helper()
	if len(got.Weights) == 0 && len(want.Weights) == 0 {
		got.Weights, want.Weights = nil, nil
	}
	if !reflect.DeepEqual(got, want) || e != wantE {
		t.Errorf("%s: got %v %d, want %v %d", what, got, e, want, wantE)
	}
}

func TestLoadExample(t *testing.T) {
	h, x := exampleH(), exampleT()
	weights := []api.Weight{{Mass: span(320, 480), High: span(180, 220)}, {Mass: span(200, 410), Along: span(-3, 4), High: span(9, 18)}}
	got, e := hold.Load([]api.Hold{h}, []api.Fill{exampleP()}, []api.Tank{x}, []api.Level{exampleL()})
	expectLoad(t, "both", got, e, api.Load{Weights: weights, Surface: span(32, 35), Shift: span(256, 400)}, api.OK)
	got, e = hold.Load(nil, nil, nil, nil)
	expectLoad(t, "nothing", got, e, api.Load{}, api.OK)
	got, e = hold.Load([]api.Hold{}, []api.Fill{}, []api.Tank{x}, []api.Level{exampleL()})
	expectLoad(t, "a tank", got, e, api.Load{Weights: weights[1:], Surface: span(32, 35)}, api.OK)
	got, e = hold.Load([]api.Hold{h}, []api.Fill{exampleP()}, nil, nil)
	expectLoad(t, "a hold", got, e, api.Load{Weights: weights[:1], Shift: span(256, 400)}, api.OK)
	got, e = hold.Load([]api.Hold{h}, []api.Fill{emptyH()}, nil, nil)
	expectLoad(t, "an empty hold", got, e, api.Load{}, api.OK)
	// An empty tank is a weight without a mass.
	got, e = hold.Load(nil, nil, []api.Tank{x}, []api.Level{{Tank: 2, Density: exampleD()}})
	expectLoad(t, "an empty tank", got, e, api.Load{Weights: []api.Weight{{Along: span(-3, 4)}}}, api.OK)
}

// compartments are all that Load has as arguments.
type compartments struct {
	h []api.Hold
	f []api.Fill
	t []api.Tank
	l []api.Level
}

func (c compartments) load() (api.Load, api.Errno) { return hold.Load(c.h, c.f, c.t, c.l) }

// randomCompartments has holds and tanks with ids of their own.
func randomCompartments(r *rand.Rand, holds, tanks int) compartments {
	var c compartments
	ids := r.Perm(api.MaxHolds)
	for i := range holds {
		h := randomHold(r, 30, 7, 500)
		h.Id = ids[i] + 1
		c.h, c.f = append(c.h, h), append(c.f, randomFill(r, h))
	}
	ids = r.Perm(api.MaxTanks)
	for i := range tanks {
		x := randomTank(r, 30, 7, 500)
		x.Id = ids[i] + 1
		c.t, c.l = append(c.t, x), append(c.l, randomLevel(r, x))
	}
	return c
}

func plus(a, b api.Range) api.Range { return span(a.Lo+b.Lo, a.Hi+b.Hi) }

// wantLoad adds up what the oracle has of each compartment.
func wantLoad(c compartments) api.Load {
	var all api.Load
	for i, h := range c.h {
		f := c.f[i]
		if f.State != api.Empty {
			all.Weights = append(all.Weights, api.Weight{Mass: wantDense(wantVolume(h, f), f.Density), Along: h.Along, High: wantHeight(h, f)})
		}
		all.Shift = plus(all.Shift, wantDense(wantMoment(h, f), f.Density))
	}
	for i, x := range c.t {
		l := c.l[i]
		all.Weights = append(all.Weights, api.Weight{Mass: wantDense(overOf(x.Volume, l.Sounding), l.Density), Along: x.Along, High: overOf(x.Height, l.Sounding)})
		all.Surface = plus(all.Surface, wantSurface(x, l))
	}
	return all
}

func TestLoad(t *testing.T) {
	r := rand.New(rand.NewSource(50))
	for range 300 {
		c := randomCompartments(r, r.Intn(api.MaxHolds+1), r.Intn(api.MaxTanks+1))
		got, e := c.load()
		expectLoad(t, "Load", got, e, wantLoad(c), api.OK)
	}
	c := randomCompartments(r, api.MaxHolds, api.MaxTanks)
	got, e := c.load()
	expectLoad(t, "as many as can be", got, e, wantLoad(c), api.OK)
}

// TestGreatLoad has all compartments at their limits.
func TestGreatLoad(t *testing.T) {
	var c compartments
	for id := 1; id <= api.MaxHolds; id++ {
		h, x := greatH(), greatT()
		h.Id, x.Id = id, id
		c.h, c.t = append(c.h, h), append(c.t, x)
		c.f = append(c.f, api.Fill{Hold: id, State: api.Untrimmed, Density: one(api.MaxDensity)})
		c.l = append(c.l, api.Level{Tank: id, Sounding: one(api.MaxX), Density: one(api.MaxDensity)})
	}
	got, e := c.load()
	if got.Shift != one(18*api.MaxY) || got.Surface != one(18*api.MaxY) || len(got.Weights) != 18 || e != api.OK {
		t.Error(got, e)
	}
}

// TestSums is P2.8.
func TestSums(t *testing.T) {
	r := rand.New(rand.NewSource(51))
	for range 200 {
		c := randomCompartments(r, r.Intn(api.MaxHolds+1), r.Intn(api.MaxTanks+1))
		i, j := r.Intn(len(c.h)+1), r.Intn(len(c.t)+1)
		all, _ := c.load()
		a, e := compartments{c.h[:i], c.f[:i], c.t[:j], c.l[:j]}.load()
		b, e2 := compartments{c.h[i:], c.f[i:], c.t[j:], c.l[j:]}.load()
		if e != api.OK || e2 != api.OK || plus(a.Surface, b.Surface) != all.Surface || plus(a.Shift, b.Shift) != all.Shift {
			t.Errorf("%v and %v are not %v", a, b, all)
		}
		count := map[api.Weight]int{}
		for _, w := range append(append([]api.Weight{}, a.Weights...), b.Weights...) {
			count[w]++
		}
		for _, w := range all.Weights {
			count[w]--
		}
		for w, n := range count {
			if n != 0 {
				t.Errorf("%d of %v", n, w)
			}
		}
	}
}

func expectNoLoad(t *testing.T, what string, c compartments, e api.Errno) {
	t.Helper()
	got, gotE := c.load()
	expectLoad(t, what, got, gotE, api.Load{}, e)
}

func TestNoLoad(t *testing.T) {
	r := rand.New(rand.NewSource(52))
	good := randomCompartments(r, 3, 3)
	long := randomCompartments(r, api.MaxHolds, api.MaxTanks)
	longHolds, longTanks := append(long.h, long.h[0]), append(long.t, long.t[0])
	expectNoLoad(t, "holds", compartments{longHolds, append(long.f, long.f[0]), nil, nil}, api.ErrLong)
	expectNoLoad(t, "tanks", compartments{nil, nil, longTanks, append(long.l, long.l[0])}, api.ErrLong)
	expectNoLoad(t, "holds without fills", compartments{longHolds, nil, nil, nil}, api.ErrLong)
	expectNoLoad(t, "tanks behind fills that are too few", compartments{good.h, nil, longTanks, nil}, api.ErrLong)
	expectNoLoad(t, "fills", compartments{good.h, good.f[:2], good.t, good.l}, api.ErrArg)
	expectNoLoad(t, "fills", compartments{good.h[:2], good.f, good.t, good.l}, api.ErrArg)
	expectNoLoad(t, "fills, more than holds may be", compartments{good.h[:2], append(long.f, long.f...), nil, nil}, api.ErrArg)
	expectNoLoad(t, "levels", compartments{good.h, good.f, good.t, good.l[:2]}, api.ErrArg)
	expectNoLoad(t, "levels", compartments{good.h, good.f, good.t[:2], good.l}, api.ErrArg)
	expectNoLoad(t, "no hold, and too few levels", compartments{make([]api.Hold, 1), make([]api.Fill, 1), good.t, nil}, api.ErrArg)
}

// TestLoadOneByOne has errors of two places: the first one decides.
func TestLoadOneByOne(t *testing.T) {
	r := rand.New(rand.NewSource(53))
	badHold := func(c *compartments, i int) { c.h[i].Id = 0 }
	twice := func(c *compartments, i int) {
		c.h[i] = c.h[0]
		c.f[i] = c.f[0]
	}
	badFill := func(c *compartments, i int) { c.f[i].State = 6 }
	badTank := func(c *compartments, i int) { c.t[i].Id = 0 }
	twiceTank := func(c *compartments, i int) {
		c.t[i] = c.t[0]
		c.l[i] = c.l[0]
	}
	badLevel := func(c *compartments, i int) { c.l[i].Density = api.Range{} }
	all := []struct {
		what string
		do   func(c *compartments, i int)
		e    api.Errno
		rank int // the holds are ahead of the tanks
	}{{"hold", badHold, api.ErrHold, 0}, {"hold twice", twice, api.ErrHold, 0}, {"fill", badFill, api.ErrFill, 0},
		{"tank", badTank, api.ErrTank, 4}, {"tank twice", twiceTank, api.ErrTank, 4}, {"level", badLevel, api.ErrLevel, 4}}
	for _, a := range all {
		for _, b := range all {
			for i := 1; i < 4; i++ {
				for j := 1; j < 4; j++ {
					c := randomCompartments(r, 4, 4)
					b.do(&c, j)
					a.do(&c, i)
					want := a.e
					if b.rank+j < a.rank+i {
						want = b.e
					}
					if i == j && a.rank == b.rank {
						continue
					}
					expectNoLoad(t, a.what+", "+b.what, c, want)
				}
			}
		}
	}
	c := randomCompartments(r, 4, 4)
	twice(&c, 2)
	badFill(&c, 2)
	expectNoLoad(t, "a hold twice, with a bad fill", c, api.ErrHold)
	c = randomCompartments(r, 4, 4)
	twiceTank(&c, 2)
	badLevel(&c, 2)
	expectNoLoad(t, "a tank twice, with a bad level", c, api.ErrTank)
	c = randomCompartments(r, 4, 4)
	badHold(&c, 2)
	badFill(&c, 2)
	expectNoLoad(t, "a bad hold, with a bad fill", c, api.ErrHold)
}
