package plan_test

import (
	"math"
	"math/rand"
	"slices"
	"testing"

	"ullage/api"
	"ullage/plan"
)

func TestExamplesOfWorkLeft(t *testing.T) {
	u, e := plan.Without(exampleW(), 1)
	want := api.Work{Change: 10, Jobs: []api.Job{{Cost: 5, Minutes: 60}, {Cost: 1, Minutes: 20, Dry: true}}, Legs: legs(0, 1, 1, 2)}
	if !sameWork(u, want) || e != api.OK {
		t.Error(u, e)
	}
	if l, e := plan.Spare(exampleW()); !slices.Equal(l, []int{0, 1, 2}) || e != api.OK {
		t.Error(l, e)
	}
}

// TestWithoutByHand: the first one, one between, and the last one are left out.
func TestWithoutByHand(t *testing.T) {
	w := exampleW()
	w.Legs = legs(6, 1, 4, 3, 0, 2, 2, 4, 1, 6, 5, 2, 0, 4, 2, 1, 4, 2)
	for job, want := range [][]api.Leg{
		legs(2, 1, 0, 1, 1, 2, 0, 3, 0, 2),
		legs(2, 1, 0, 2, 1, 2, 0, 1),
		legs(2, 1, 0, 3, 0, 2, 1, 2),
	} {
		u, e := plan.Without(w, job)
		if !slices.Equal(u.Legs, want) || e != api.OK {
			t.Errorf("without %d: %v %d, want %v", job, u.Legs, e, want)
		}
		if !slices.Equal(u.Jobs, slices.Delete(exampleW().Jobs, job, job+1)) || u.Change != 10 || plan.CheckWork(u) != api.OK {
			t.Error(u)
		}
	}
}

func TestJobsThatAreNone(t *testing.T) {
	one := exampleW()
	one.Jobs, one.Legs = one.Jobs[:1], legs(0, 1)
	for _, job := range []int{-1, 3, math.MaxInt, math.MinInt, 64} {
		for _, w := range []api.Work{exampleW(), one} {
			if u, e := plan.Without(w, job); !sameWork(u, api.Work{}) || e != api.ErrArg {
				t.Error(job, u, e)
			}
			if p, e := plan.First(w, job); len(p.Legs) != 0 || e != api.ErrArg {
				t.Error(job, p, e)
			}
		}
	}
	if u, e := plan.Without(one, 0); !sameWork(u, api.Work{}) || e != api.ErrNone {
		t.Error(u, e)
	}
	if l, e := plan.Spare(one); len(l) != 0 || e != api.OK {
		t.Error(l, e)
	}
	if _, e := plan.First(one, 1); e != api.ErrArg {
		t.Error(e)
	}
}

// TestSpareJobs: some jobs are not spare, and some make work possible when they are left out.
func TestSpareJobs(t *testing.T) {
	for _, x := range []struct {
		legs []int
		want []int
	}{
		{nil, nil},
		{[]int{0, 1, 1, 2}, []int{2}},
		{[]int{0, 1, 1, 4}, []int{1}},
		{[]int{0, 2, 6, 1}, []int{2}},
		{[]int{0, 1, 5, 2}, []int{2}},
		{[]int{0, 1, 1, 2, 6, 1, 0, 4}, []int{1, 2}},
		{[]int{0, 3}, []int{2}},
	} {
		w := withLegs(exampleW(), x.legs...)
		if l, e := plan.Spare(w); !slices.Equal(l, x.want) || e != api.OK {
			t.Errorf("%v: %v %d, want %v", x.legs, l, e, x.want)
		}
	}
}

// TestLeftOut is P5.7, and holds what is left against masks that are built job by job.
func TestLeftOut(t *testing.T) {
	planned, spare, merged := 0, 0, 0
	trials(55, 600, func(r *rand.Rand, w api.Work) {
		var want []int
		for job := range w.Jobs {
			u, e := plan.Without(w, job)
			if len(w.Jobs) == 1 {
				continue
			}
			if !sameWork(u, wantWithout(w, job)) || e != api.OK || plan.CheckWork(u) != api.OK {
				t.Errorf("%v without %d: %v, want %v: %d", w, job, u, wantWithout(w, job), e)
			}
			if hasPlan(w) {
				planned++
				if !hasPlan(u) {
					t.Errorf("%v has a plan, but none without %d", w, job)
				}
			}
			if len(plansOf(u)) > 0 {
				want = append(want, job)
			}
			if len(u.Legs)+1 < len(w.Legs) {
				merged++
			}
		}
		l, e := plan.Spare(w)
		if !slices.Equal(l, want) || e != api.OK {
			t.Errorf("%v: spare are %v, want %v: %d", w, l, want, e)
		}
		if !hasPlan(w) {
			spare += len(l)
		}
	})
	if planned < 200 || spare < 20 || merged < 200 {
		t.Error("too few cases:", planned, spare, merged)
	}
}

// TestMoreLegs is the second sentence of P5.7.
func TestMoreLegs(t *testing.T) {
	cheaper, first := 0, 0
	trials(56, 1500, func(r *rand.Rand, w api.Work) {
		few := w
		few.Legs = nil
		for _, l := range w.Legs {
			if r.Intn(8) > 2 {
				few.Legs = append(few.Legs, l)
			}
		}
		p, e := plan.Best(few)
		if e != api.OK {
			if hasPlan(w) {
				first++
			}
			return
		}
		q, e := plan.Best(w)
		before, e2 := plan.Cost(few, p)
		after, e3 := plan.Cost(w, q)
		if e != api.OK || e2 != api.OK || e3 != api.OK || after > before {
			t.Errorf("%v handles %d, with fewer legs %d: %d %d %d", w, after, before, e, e2, e3)
		}
		if after < before {
			cheaper++
		}
	})
	if cheaper < 5 || first < 20 {
		t.Error("too few cases:", cheaper, first)
	}
}
