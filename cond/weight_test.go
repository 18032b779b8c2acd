package cond_test

import (
	"math/big"
	"math/rand"
	"testing"

	"ullage/api"
	"ullage/cond"
)

func TestSumExamples(t *testing.T) {
	two := []api.Weight{{Mass: span(1, 3)}, {Mass: one(1), Along: one(10)}}
	got, e := cond.Sum(two)
	expect(t, "the example", got, e, api.Weight{Mass: span(2, 4), Along: span(2, 5)}, api.OK)
	got, e = cond.Total(exampleS(), exampleL())
	expect(t, "Total", got, e, api.Weight{Mass: one(4000), Along: one(500), High: one(4000)}, api.OK)
	got, e = cond.Total(exampleS(), api.Load{})
	expect(t, "Total of the ship alone", got, e, exampleS().Light, api.OK)
	r, e := cond.Tonnes(exampleS(), exampleL())
	expect(t, "Tonnes", r, e, one(4), api.OK)
}

func TestSumEdges(t *testing.T) {
	p := api.MaxPlace
	light, heavy := api.Weight{Mass: one(1), Along: one(-p), High: one(p)}, api.Weight{Mass: one(api.MaxKilos), Along: one(p), High: one(0)}
	for _, x := range []struct {
		what string
		l    []api.Weight
		want api.Weight
	}{
		{"one", []api.Weight{{Mass: span(0, 0), Along: one(9)}, {Mass: one(1), Along: span(-3, 4), High: span(5, 6)}}, api.Weight{Mass: one(1), Along: span(-3, 4), High: span(5, 6)}},
		{"a mass that may be 0", []api.Weight{{Mass: span(0, 9), Along: one(100)}, {Mass: one(1), Along: one(0)}}, api.Weight{Mass: span(1, 10), Along: span(0, 90)}},
		{"below 0", []api.Weight{{Mass: one(1), Along: one(-1)}, {Mass: one(1), Along: one(0)}}, api.Weight{Mass: one(2), Along: span(-1, 0)}},
		{"far apart", []api.Weight{light, heavy}, api.Weight{Mass: one(api.MaxKilos + 1), Along: span(p-1, p), High: span(0, 1)}},
		{"the same", []api.Weight{heavy, heavy, heavy}, api.Weight{Mass: one(3 * api.MaxKilos), Along: one(p), High: one(0)}},
	} {
		got, e := cond.Sum(x.l)
		expect(t, x.what, got, e, x.want, api.OK)
	}
	var many []api.Weight
	for range api.MaxWeights + 1 {
		many = append(many, api.Weight{Mass: span(0, api.MaxKilos), Along: span(-p, p), High: span(0, p)})
	}
	many[20].Mass.Lo = 1
	got, e := cond.Sum(many)
	expect(t, "as many and as much as can be", got, e, api.Weight{Mass: span(1, api.MaxKilos*(api.MaxWeights+1)), Along: span(-p, p), High: span(0, p)}, api.OK)
}

func TestNoSum(t *testing.T) {
	good := exampleL().Weights[0]
	massless := api.Weight{Mass: span(0, 7)}
	many := make([]api.Weight, api.MaxWeights+2)
	for _, x := range []struct {
		what string
		l    []api.Weight
		want api.Errno
	}{
		{"none", nil, api.ErrNone},
		{"none, not nil", []api.Weight{}, api.ErrNone},
		{"no mass", []api.Weight{{}}, api.ErrNone},
		{"perhaps no mass", []api.Weight{massless, massless}, api.ErrNone},
		{"as many as may be, without mass", many[:api.MaxWeights+1], api.ErrNone},
		{"too many", many, api.ErrLong},
		{"too many, and bad", append([]api.Weight{badWeights()[0]}, many...), api.ErrLong},
		{"bad, and no mass", []api.Weight{massless, badWeights()[len(badWeights())-1]}, api.ErrWeight},
	} {
		got, e := cond.Sum(x.l)
		expect(t, x.what, got, e, api.Weight{}, x.want)
	}
	for _, w := range badWeights() {
		got, e := cond.Sum([]api.Weight{w})
		expect(t, "a bad one", got, e, api.Weight{}, api.ErrWeight)
		got, e = cond.Sum([]api.Weight{good, w, good})
		expect(t, "a bad one among others", got, e, api.Weight{}, api.ErrWeight)
	}
}

func randomWeights(r *rand.Rand, most int) []api.Weight {
	z := sizes()[r.Intn(len(sizes()))]
	high := []int{3, 2000, api.MaxKilos}[r.Intn(3)]
	var l []api.Weight
	for n := 1 + r.Intn(most); n > 0; n-- {
		l = append(l, randomWeight(r, z, span(0, high)))
	}
	l[r.Intn(len(l))].Mass = randomSpan(r, 1, high)
	return l
}

func TestSum(t *testing.T) {
	r := rand.New(rand.NewSource(1))
	for range 3000 {
		l := randomWeights(r, 5)
		got, e := cond.Sum(l)
		expect(t, "Sum", got, e, wantSum(l), api.OK)
	}
	for range 300 {
		l := randomWeights(r, api.MaxWeights+1)
		got, e := cond.Sum(l)
		expect(t, "Sum of many", got, e, wantSum(l), api.OK)
	}
}

// centres goes through all choices of the least and the greatest masses, and of the ends of places.
func centres(l []api.Weight, of func(w api.Weight) api.Range) (least, greatest *big.Rat) {
	for choice := range 1 << (2 * len(l)) {
		mass, moment := 0, 0
		for i, w := range l {
			m, x := w.Mass.Lo, of(w).Lo
			if choice>>(2*i)&1 == 1 {
				m = w.Mass.Hi
			}
			if choice>>(2*i)&2 == 2 {
				x = of(w).Hi
			}
			mass, moment = mass+m, moment+m*x
		}
		if mass == 0 {
			continue
		}
		c := big.NewRat(int64(moment), int64(mass))
		if least == nil || c.Cmp(least) < 0 {
			least = c
		}
		if greatest == nil || c.Cmp(greatest) > 0 {
			greatest = c
		}
	}
	return least, greatest
}

// TestExactCentres is P3.3.
func TestExactCentres(t *testing.T) {
	r := rand.New(rand.NewSource(2))
	for range 400 {
		l := randomWeights(r, 4)
		got, e := cond.Sum(l)
		for what, x := range map[string]struct {
			of  func(w api.Weight) api.Range
			got api.Range
		}{"Along": {alongOf, got.Along}, "High": {highOf, got.High}} {
			least, greatest := centres(l, x.of)
			expect(t, what, x.got, e, span(down(least), up(greatest)), api.OK)
		}
	}
}

func TestTotal(t *testing.T) {
	for _, x := range trials(3, 40) {
		got, e := cond.Total(x.s, x.l)
		expect(t, "Total", got, e, wantTotal(x.s, x.l), api.OK)
		tonnes, e := cond.Tonnes(x.s, x.l)
		expect(t, "Tonnes", tonnes, e, wantTonnes(x.s, x.l), api.OK)
	}
	// The whole load is at its limits; no table is needed for this.
	l := api.Load{}
	for range api.MaxWeights {
		l.Weights = append(l.Weights, api.Weight{Mass: one(api.MaxKilos), Along: one(api.MaxPlace), High: one(api.MaxPlace)})
	}
	s := greatS()
	s.Light.Mass = span(1001, 1999)
	got, e := cond.Tonnes(s, l)
	expect(t, "Tonnes of all", got, e, span(api.MaxWeights*1000000+1, api.MaxWeights*1000000+2), api.OK)
	w, e := cond.Total(s, l)
	expect(t, "Total of all", w, e, wantTotal(s, l), api.OK)
}
