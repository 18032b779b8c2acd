package plan_test

import (
	"math"
	"math/rand"
	"slices"
	"testing"

	"ullage/api"
	"ullage/plan"
)

// exampleL are the potentials of the example.
func exampleL() []api.Potential {
	return []api.Potential{{Done: 0, Spouts: 0, Least: 33}, {Done: 1, Spouts: 1, Least: 18}, {Done: 2, Spouts: 2, Least: 16}, {Done: 3, Spouts: 1, Least: 1}, {Done: 3, Spouts: 2, Least: 11}, {Done: 7, Spouts: 1}, {Done: 7, Spouts: 3}}
}

func TestExamplesOfPotentials(t *testing.T) {
	if l, e := plan.Potentials(exampleW()); !slices.Equal(l, exampleL()) || e != api.OK {
		t.Error(l, e)
	}
	if n, e := plan.CheckPotentials(exampleW(), exampleL()); n != 33 || e != api.OK {
		t.Error(n, e)
	}
	l := exampleL()
	l[0].Least = 34
	if n, e := plan.CheckPotentials(exampleW(), l); n != 0 || e != api.ErrBound {
		t.Error(n, e)
	}
}

// TestStatesWithoutPlans: what is reached, but leads to no plan, is told too.
func TestStatesWithoutPlans(t *testing.T) {
	const nowhere = 100000000
	w := withLegs(exampleW(), 0, 1, 1, 2, 0, 2, 0, 4, 4, 3)
	want := []api.Potential{{Done: 0, Spouts: 0, Least: 33}, {Done: 1, Spouts: 1, Least: nowhere}, {Done: 2, Spouts: 2, Least: nowhere}, {Done: 3, Spouts: 2, Least: nowhere}, {Done: 4, Spouts: 1, Least: 22}, {Done: 7, Spouts: 3}}
	l, e := plan.Potentials(w)
	if !slices.Equal(l, want) || e != api.OK {
		t.Error(l, e)
	}
	if n, e := plan.CheckPotentials(w, l); n != 33 || e != api.OK {
		t.Error(n, e)
	}
	w.Legs = w.Legs[:3]
	l, e = plan.Potentials(w)
	if len(l) != 4 || l[0].Least != nowhere || e != api.OK {
		t.Error(l, e)
	}
	if n, e := plan.CheckPotentials(w, l); n != nowhere || e != api.OK {
		t.Error(n, e)
	}
	// Where nothing leads to all jobs, a bound may be as great as a number of a potential.
	l = []api.Potential{{Least: 1000000000}}
	if n, e := plan.CheckPotentials(withLegs(w), l); n != 1000000000 || e != api.OK {
		t.Error(n, e)
	}
}

// TestPotentialsThatBoundNothing breaks each demand by itself.
func TestPotentialsThatBoundNothing(t *testing.T) {
	change := func(what string, do func(l []api.Potential) []api.Potential) {
		t.Helper()
		if n, e := plan.CheckPotentials(exampleW(), do(exampleL())); n != 0 || e != api.ErrBound {
			t.Errorf("%s: %d %d", what, n, e)
		}
	}
	set := func(i int, p api.Potential) func(l []api.Potential) []api.Potential {
		return func(l []api.Potential) []api.Potential { l[i] = p; return l }
	}
	for i, p := range exampleL() {
		raised := p
		raised.Least++
		change("a greater number", set(i, raised))
		change("left out", func(l []api.Potential) []api.Potential { return slices.Delete(l, i, i+1) })
		change("twice", func(l []api.Potential) []api.Potential { return slices.Insert(l, i, p) })
	}
	change("none", func([]api.Potential) []api.Potential { return nil })
	change("the end alone", func(l []api.Potential) []api.Potential { return l[6:] })
	change("reversed", func(l []api.Potential) []api.Potential { slices.Reverse(l); return l })
	change("spouts reversed", func(l []api.Potential) []api.Potential { l[3], l[4] = l[4], l[3]; return l })
	for _, i := range []int{1, 2, 3, 5, 6} {
		// What leads to these states is as cheap as may be.
		lowered := exampleL()[i]
		lowered.Least--
		change("a lesser number", set(i, lowered))
	}
	last := func(p api.Potential) func(l []api.Potential) []api.Potential {
		return func(l []api.Potential) []api.Potential { return append(l, p) }
	}
	change("no mask", last(api.Potential{Done: 8, Spouts: 1}))
	change("a great mask", last(api.Potential{Done: math.MaxInt, Spouts: 1}))
	change("no set of spouts", last(api.Potential{Done: 7, Spouts: 16}))
	change("a great set of spouts", last(api.Potential{Done: 7, Spouts: math.MaxInt}))
	change("a cost at the end", last(api.Potential{Done: 7, Spouts: 15, Least: 1}))
	change("a small number", last(api.Potential{Done: 7, Spouts: 15, Least: -1000000001}))
	change("the least number", last(api.Potential{Done: 7, Spouts: 15, Least: math.MinInt}))
	change("a negative mask", func(l []api.Potential) []api.Potential {
		return slices.Insert(l, 0, api.Potential{Done: -1})
	})
	change("negative spouts", func(l []api.Potential) []api.Potential {
		return slices.Insert(l, 0, api.Potential{Spouts: -1, Least: -100})
	})
	change("a great number of a mask without legs", func(l []api.Potential) []api.Potential {
		return slices.Insert(l, 5, api.Potential{Done: 6, Least: 1000000001})
	})
	change("the greatest number of a mask without legs", func(l []api.Potential) []api.Potential {
		return slices.Insert(l, 5, api.Potential{Done: 6, Least: math.MaxInt})
	})
	change("a state that nothing reaches, with too great a number", func(l []api.Potential) []api.Potential {
		return slices.Insert(l, 1, api.Potential{Spouts: 15, Least: 25})
	})
}

// TestMorePotentials: potentials may tell of further states, and show less than they could.
func TestMorePotentials(t *testing.T) {
	expect := func(want int, l []api.Potential) {
		t.Helper()
		if n, e := plan.CheckPotentials(exampleW(), l); n != want || e != api.OK {
			t.Error(l, n, e)
		}
	}
	l := exampleL()
	l = append(l, api.Potential{Done: 7, Spouts: 15, Least: -1000000000})
	expect(33, l)
	l = slices.Insert(l, 5, api.Potential{Done: 6, Least: 1000000000})
	expect(33, l)
	// Behind all spouts the legs from the mask 0 cost 23 with what is behind {0, 1}, and also with what is behind {0, 2}.
	l = slices.Insert(l, 1, api.Potential{Spouts: 15, Least: 23})
	expect(33, l)
	l[0].Least = -1000000000
	expect(-1000000000, l)
	l[0].Least = 33
	l[2].Least, l[3].Least = 17, 16
	if n, e := plan.CheckPotentials(exampleW(), l); n != 0 || e != api.ErrBound {
		t.Error(n, e)
	}
	l[0].Least, l[1].Least = 32, 22
	expect(32, l)
}

// lowerUntilRight makes potentials bound work: where one is too great it is lowered.
func lowerUntilRight(w api.Work, l []api.Potential) {
	for again := true; again; {
		again = false
		for i, p := range l {
			most := 0
			if p.Done != allDone(w) {
				most = p.Least
			}
			had := map[int]bool{}
			for s := range 4 {
				had[s] = p.Spouts>>s%2 == 1
			}
			for k, x := range w.Legs {
				if x.From == p.Done {
					rest, _ := findPotential(l, x.From+x.Add, numberOf(spoutsIn(w, x.Add)))
					most = min(most, handlingOf(w, had, []int{k})+rest)
				}
			}
			if p.Least > most {
				l[i].Least, again = most, true
			}
		}
	}
}

// randomPotentials bound work, with states that nothing reaches among them.
func randomPotentials(r *rand.Rand, w api.Work) []api.Potential {
	l := wantPotentials(w)
	if r.Intn(3) > 0 {
		l = nil
		for done := range allDone(w) + 1 {
			for spouts := range 16 {
				l = append(l, api.Potential{Done: done, Spouts: spouts})
			}
		}
	}
	for i := range l {
		l[i].Least = r.Intn(60) - 5
	}
	lowerUntilRight(w, l)
	return l
}

// spoilPotentials changes one thing, which may be harmless.
func spoilPotentials(r *rand.Rand, l []api.Potential) []api.Potential {
	i := r.Intn(len(l))
	switch r.Intn(5) {
	case 0:
		return slices.Delete(l, i, i+1)
	case 1:
		l[i].Spouts += r.Intn(3) - 1
	case 2:
		l[i].Done += r.Intn(3) - 1
	case 3:
		k := r.Intn(len(l))
		l[i], l[k] = l[k], l[i]
	default:
		l[i].Least += 1 - 2*r.Intn(2)
	}
	return l
}

// TestRandomPotentials is P5.2, and holds what is accepted against the chapter's words.
func TestRandomPotentials(t *testing.T) {
	accepted, refused, below := 0, 0, 0
	trials(52, 250, func(r *rand.Rand, w api.Work) {
		plans := plansOf(w)
		best := bestOf(w, plans)
		own, e := plan.Potentials(w)
		if !slices.Equal(own, wantPotentials(w)) || e != api.OK {
			t.Errorf("%v: %v, want %v: %d", w, own, wantPotentials(w), e)
		}
		n, e := plan.CheckPotentials(w, own)
		if e != api.OK || best != nil && n != costOf(w, best) || best == nil && n != 100000000 {
			t.Errorf("%v: %v show %d %d", w, own, n, e)
		}
		l := randomPotentials(r, w)
		for range 12 {
			n, e := plan.CheckPotentials(w, l)
			if wantBound(w, l) != (e == api.OK) {
				t.Errorf("%v: %v: %d", w, l, e)
			}
			if e == api.OK {
				accepted++
				if first, _ := findPotential(l, 0, 0); first != n {
					t.Errorf("%v: %v show %d", w, l, n)
				}
				if best != nil && n < costOf(w, best) {
					below++
				}
				if best != nil && n > costOf(w, best) {
					t.Errorf("%v: %v show %d, but %v handles less", w, l, n, best)
				}
			} else {
				refused++
				if n != 0 || e != api.ErrBound {
					t.Error(n, e)
				}
				l = randomPotentials(r, w)
			}
			l = spoilPotentials(r, slices.Clone(l))
			if len(l) == 0 {
				break
			}
		}
	})
	if accepted < 200 || refused < 200 || below < 100 {
		t.Error("too few cases:", accepted, refused, below)
	}
}
