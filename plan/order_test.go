package plan_test

import (
	"math"
	"math/rand"
	"slices"
	"testing"

	"ullage/api"
	"ullage/plan"
)

func TestExamplesOfPlans(t *testing.T) {
	w := exampleW()
	if n, e := plan.Count(w); n != 3 || e != api.OK {
		t.Error(n, e)
	}
	for n, want := range []struct {
		legs []int
		cost int
	}{{[]int{0, 1, 3}, 43}, {[]int{0, 2}, 33}, {[]int{4, 5, 3}, 33}} {
		p, e := plan.Nth(w, n)
		if !slices.Equal(p.Legs, want.legs) || e != api.OK {
			t.Error(n, p, e)
		}
		if cost, e := plan.Cost(w, p); cost != want.cost || e != api.OK {
			t.Error(p, cost, e)
		}
	}
	if p, e := plan.Best(w); !slices.Equal(p.Legs, []int{0, 2}) || e != api.OK {
		t.Error(p, e)
	}
	for job, want := range [][]int{{0, 2}, {4, 5, 3}} {
		if p, e := plan.First(w, job); !slices.Equal(p.Legs, want) || e != api.OK {
			t.Error(job, p, e)
		}
	}
	if p, e := plan.First(w, 2); len(p.Legs) != 0 || e != api.ErrNone {
		t.Error(p, e)
	}
	if l, e := plan.Reach(w); !slices.Equal(l, []int{0, 1, 2, 3, 7}) || e != api.OK {
		t.Error(l, e)
	}
}

// TestSpoutsThatStay: only what the leg just ahead had is there without a change.
func TestSpoutsThatStay(t *testing.T) {
	w := api.Work{
		Change: 10,
		Jobs:   []api.Job{{Cost: 1, Minutes: 1}, {Cost: 2, Spout: 1, Minutes: 1}, {Cost: 4, Minutes: 1}, {Cost: 1000, Spout: 3, Minutes: 1}},
		Legs:   legs(0, 1, 1, 2, 3, 4, 7, 8, 1, 4, 5, 2, 0, 3, 3, 12, 1, 6, 5, 10),
	}
	for _, x := range []struct {
		legs []int
		cost int
	}{
		{[]int{0, 1, 2, 3}, 1007 + 40}, // the spout 0 comes twice
		{[]int{0, 4, 5, 3}, 1007 + 30},
		{[]int{6, 2, 3}, 1007 + 30}, // both together, then the spout 0 stays
		{[]int{6, 7}, 1007 + 30},
		{[]int{0, 8, 3}, 1007 + 30},
		{[]int{0, 4, 9}, 1007 + 30},
	} {
		if n, e := plan.Cost(w, planOf(x.legs...)); n != x.cost || e != api.OK {
			t.Error(x, n, e)
		}
	}
}

// TestFirstHandlesMore: a plan that begins with a job may handle more than the best one, and others are cheaper behind the same leg.
func TestFirstHandlesMore(t *testing.T) {
	w := exampleW()
	w.Legs = legs(0, 1, 1, 2, 3, 4, 0, 2, 2, 1, 1, 4, 5, 2, 0, 3)
	for _, x := range []struct {
		job  int
		legs []int
		cost int
	}{{0, []int{0, 5, 6}, 33}, {1, []int{3, 4, 2}, 33}, {2, nil, 0}} {
		p, e := plan.First(w, x.job)
		if !slices.Equal(p.Legs, x.legs) || (e == api.ErrNone) != (x.legs == nil) {
			t.Error(x, p, e)
		}
		if n, _ := plan.Cost(w, p); n != x.cost {
			t.Error(x, n)
		}
	}
	w.Legs = w.Legs[:5]
	for job, x := range []struct {
		legs []int
		cost int
	}{{[]int{0, 1, 2}, 43}, {[]int{3, 4, 2}, 33}} {
		p, e := plan.First(w, job)
		if n, _ := plan.Cost(w, p); n != x.cost || !slices.Equal(p.Legs, x.legs) || e != api.OK {
			t.Error(job, p, n, e)
		}
	}
	if p, e := plan.Best(w); !slices.Equal(p.Legs, []int{3, 4, 2}) || e != api.OK {
		t.Error(p, e)
	}
}

// TestWorkWithoutPlans: work that no order does has no plan with any number.
func TestWorkWithoutPlans(t *testing.T) {
	for _, w := range []api.Work{withLegs(exampleW()), withLegs(exampleW(), 0, 1, 0, 2), withLegs(exampleW(), 1, 6), withLegs(exampleW(), 0, 1, 3, 4)} {
		if n, e := plan.Count(w); n != 0 || e != api.OK {
			t.Error(n, e)
		}
		for _, n := range []int{0, -1, 1} {
			if p, e := plan.Nth(w, n); len(p.Legs) != 0 || e != api.ErrNone {
				t.Error(p, e)
			}
		}
		if p, e := plan.Best(w); len(p.Legs) != 0 || e != api.ErrNone {
			t.Error(p, e)
		}
		for job := range w.Jobs {
			if p, e := plan.First(w, job); len(p.Legs) != 0 || e != api.ErrNone {
				t.Error(p, e)
			}
		}
	}
	if l, e := plan.Reach(withLegs(exampleW(), 1, 6)); !slices.Equal(l, []int{0}) || e != api.OK {
		t.Error(l, e)
	}
}

// TestNumbersBeyond: there are no plans ahead of the first one and behind the last one.
func TestNumbersBeyond(t *testing.T) {
	for _, n := range []int{-1, 3, 4, math.MaxInt, math.MinInt, math.MinInt + 3} {
		if p, e := plan.Nth(exampleW(), n); len(p.Legs) != 0 || e != api.ErrNone {
			t.Error(n, p, e)
		}
	}
}

// TestOneJob is work that has but one leg.
func TestOneJob(t *testing.T) {
	w := api.Work{Change: 3, Jobs: []api.Job{{Cost: 4, Spout: 2, Minutes: 1}}, Legs: legs(0, 1)}
	if p, e := plan.Best(w); !slices.Equal(p.Legs, []int{0}) || e != api.OK {
		t.Error(p, e)
	}
	if n, e := plan.Cost(w, planOf(0)); n != 7 || e != api.OK {
		t.Error(n, e)
	}
	if n, e := plan.Count(w); n != 1 || e != api.OK {
		t.Error(n, e)
	}
	if l, e := plan.Potentials(w); !slices.Equal(l, []api.Potential{{Least: 7}, {Done: 1, Spouts: 4}}) || e != api.OK {
		t.Error(l, e)
	}
}

// pairings is the number of ways to take pairs of different spouts out of jobs, by the number of pairs.
func pairings(spouts []int) map[int]int {
	if len(spouts) == 0 {
		return map[int]int{0: 1}
	}
	ways := pairings(spouts[1:])
	for k := 1; k < len(spouts); k++ {
		if spouts[k] != spouts[0] {
			for pairs, n := range pairings(slices.Delete(slices.Clone(spouts), k, k+1)[1:]) {
				ways[pairs+1] += n
			}
		}
	}
	return ways
}

// TestGreatestWork has all legs of as many jobs as may be.
func TestGreatestWork(t *testing.T) {
	w := greatestWork()
	want := 0
	for pairs, n := range pairings([]int{0, 1, 2, 3, 0, 1, 2, 3}) {
		for k := 2; k <= 8-pairs; k++ {
			n *= k
		}
		want += n
	}
	count, e := plan.Count(w)
	if count != want || e != api.OK {
		t.Errorf("%d plans, want %d: %d", count, want, e)
	}
	last, e := plan.Nth(w, count-1)
	if e != api.OK || plan.CheckPlan(w, last) != api.OK {
		t.Error(last, e)
	}
	if _, e := plan.Nth(w, count); e != api.ErrNone {
		t.Error(e)
	}
	p, e := plan.Best(w)
	if n, e2 := plan.Cost(w, p); n != 12*api.MaxCost || e != api.OK || e2 != api.OK {
		t.Error(p, n, e, e2)
	}
	l, e := plan.Potentials(w)
	if n, e2 := plan.CheckPotentials(w, l); n != 12*api.MaxCost || e != api.OK || e2 != api.OK {
		t.Error(n, e, e2)
	}
	if l, e := plan.Reach(w); len(l) != 256 || e != api.OK {
		t.Error(len(l), e)
	}
	// The dearest plan brings a spout for each job.
	dear := withLegs(w)
	for j := range 8 {
		dear.Legs = append(dear.Legs, api.Leg{From: 1<<j - 1, Add: 1 << j})
	}
	if n, e := plan.Cost(dear, planOf(0, 1, 2, 3, 4, 5, 6, 7)); n != 16*api.MaxCost || e != api.OK {
		t.Error(n, e)
	}
}

// TestPlansOfRandomWork holds all that is told of plans against all of them.
func TestPlansOfRandomWork(t *testing.T) {
	seen, ties, none, later := 0, 0, 0, 0
	trials(51, 400, func(r *rand.Rand, w api.Work) {
		plans := plansOf(w)
		if n, e := plan.Count(w); n != len(plans) || e != api.OK {
			t.Errorf("%v: %d plans, want %d: %d", w, n, len(plans), e)
		}
		for i, want := range plans {
			seen++
			if p, e := plan.Nth(w, i); !slices.Equal(p.Legs, want) || e != api.OK {
				t.Errorf("%v: the plan %d is %v, want %v: %d", w, i, p, want, e)
			}
			if n, e := plan.Cost(w, planOf(want...)); n != costOf(w, want) || e != api.OK {
				t.Errorf("%v: %v handles %d, want %d: %d", w, want, n, costOf(w, want), e)
			}
			if i > 0 && slices.Compare(plans[i-1], want) >= 0 {
				t.Error("no order:", plans)
			}
			if costOf(w, want) == costOf(w, bestOf(w, plans)) && !slices.Equal(want, bestOf(w, plans)) {
				ties++
			}
		}
		expectBest := func(p api.Plan, e api.Errno, among [][]int) {
			t.Helper()
			want := bestOf(w, among)
			if !slices.Equal(p.Legs, want) || (e == api.OK) != (want != nil) || want == nil && e != api.ErrNone {
				t.Errorf("%v: %v %d, want %v", w, p, e, want)
			}
			if want == nil {
				none++
			}
		}
		p, e := plan.Best(w)
		expectBest(p, e, plans)
		for job := range w.Jobs {
			var among [][]int
			for _, l := range plans {
				if w.Legs[l[0]].Add>>job%2 == 1 {
					among = append(among, l)
				}
			}
			p, e := plan.First(w, job)
			expectBest(p, e, among)
			if e == api.OK && costOf(w, p.Legs) > costOf(w, bestOf(w, plans)) {
				later++
			}
		}
		if l, e := plan.Reach(w); !slices.Equal(l, chainsFrom(w, func(mask int) bool { return mask == 0 })) || e != api.OK {
			t.Error(w, l, e)
		}
	})
	if seen < 1000 || ties < 100 || none < 100 || later < 5 {
		t.Error("too few cases:", seen, ties, none, later)
	}
}
