package plan_test

import (
	"math"
	"slices"
	"testing"

	"ullage/api"
	"ullage/plan"
)

// defect is what makes a thing invalid.
type defect[T any] struct {
	what string
	do   func(x *T)
	e    api.Errno
}

// expectDefects tries each defect, and each two of them: the one that is named first decides.
func expectDefects[T any](t *testing.T, good func() T, check func(x T) api.Errno, l []defect[T]) {
	t.Helper()
	if e := check(good()); e != api.OK {
		t.Errorf("without a defect: %d", e)
	}
	for i, d := range l {
		x := good()
		d.do(&x)
		if e := check(x); e != d.e {
			t.Errorf("%s: %d, want %d", d.what, e, d.e)
		}
		for _, later := range l[i+1:] {
			x := good()
			later.do(&x)
			d.do(&x)
			if e := check(x); e != d.e {
				t.Errorf("%s, and then %s: %d, want %d", d.what, later.what, e, d.e)
			}
		}
	}
}

// badJobs are changes of a job that make it invalid.
func badJobs() map[string]func(j *api.Job) {
	return map[string]func(j *api.Job){
		"a cost below 0":      func(j *api.Job) { j.Cost = -1 },
		"a great cost":        func(j *api.Job) { j.Cost = api.MaxCost + 1 },
		"the greatest cost":   func(j *api.Job) { j.Cost = math.MaxInt },
		"a spout below 0":     func(j *api.Job) { j.Spout = -1 },
		"a great spout":       func(j *api.Job) { j.Spout = api.MaxSpouts },
		"the least spout":     func(j *api.Job) { j.Spout = math.MinInt },
		"no minutes":          func(j *api.Job) { j.Minutes = 0 },
		"minutes below 0":     func(j *api.Job) { j.Minutes = -1 },
		"many minutes":        func(j *api.Job) { j.Minutes = api.MaxMinutes + 1 },
		"the greatest number": func(j *api.Job) { j.Minutes = math.MaxInt },
	}
}

// badLegs are legs that are not valid for the example.
func badLegs() []api.Leg {
	return legs(-1, 1, math.MinInt, 1, 8, 1, 1<<62, 1, -8, 4, 0, 0, 3, 0, 7, 0, 0, -1, 0, 8, 0, 9, 0, math.MaxInt, 0, math.MinInt, 1, 1, 1, 3, 7, 1, 7, 7, 4, 6, 0, 7, 0, 5, 2, 5, 7, 8)
}

func TestWorkThatIsNone(t *testing.T) {
	l := []defect[api.Work]{
		{"no jobs", func(w *api.Work) { w.Jobs = nil }, api.ErrWork},
		{"no jobs and no legs", func(w *api.Work) { w.Jobs, w.Legs = nil, nil }, api.ErrWork},
		{"many jobs", func(w *api.Work) { w.Jobs = slices.Repeat(w.Jobs, 3) }, api.ErrWork},
		{"a change below 0", func(w *api.Work) { w.Change = -1 }, api.ErrWork},
		{"a great change", func(w *api.Work) { w.Change = api.MaxCost + 1 }, api.ErrWork},
		{"equal legs", func(w *api.Work) { w.Legs = append(w.Legs, w.Legs[len(w.Legs)/2]) }, api.ErrWork},
		{"equal legs one behind the other", func(w *api.Work) { w.Legs = slices.Insert(w.Legs, 0, w.Legs[0]) }, api.ErrWork},
		{"many legs", func(w *api.Work) { w.Legs = slices.Repeat(w.Legs, 501) }, api.ErrWork},
	}
	for what, spoil := range badJobs() {
		for j := range 3 {
			l = append(l, defect[api.Work]{what, func(w *api.Work) { spoil(&w.Jobs[j]) }, api.ErrWork})
		}
	}
	for _, bad := range badLegs() {
		l = append(l,
			defect[api.Work]{"a leg ahead", func(w *api.Work) { w.Legs = append([]api.Leg{bad}, w.Legs...) }, api.ErrWork},
			defect[api.Work]{"a leg behind", func(w *api.Work) { w.Legs = append(w.Legs, bad) }, api.ErrWork})
	}
	for _, d := range l {
		w := exampleW()
		d.do(&w)
		if e := plan.CheckWork(w); e != d.e {
			t.Errorf("%s: %d for %v", d.what, e, w)
		}
	}
	if e := plan.CheckWork(exampleW()); e != api.OK {
		t.Error(e)
	}
	if e := plan.CheckWork(api.Work{}); e != api.ErrWork {
		t.Error(e)
	}
}

// TestEndsOfWork: what is just at a limit is valid.
func TestEndsOfWork(t *testing.T) {
	for _, j := range []api.Job{{Minutes: 1}, {Cost: api.MaxCost, Spout: api.MaxSpouts - 1, Minutes: api.MaxMinutes, Dry: true}} {
		for _, change := range []int{0, api.MaxCost} {
			w := api.Work{Jobs: []api.Job{j}, Change: change}
			if e := plan.CheckWork(w); e != api.OK {
				t.Error(w, e)
			}
		}
	}
	w := greatestWork()
	if e := plan.CheckWork(w); e != api.OK || len(w.Jobs) != api.MaxJobs || len(w.Legs) != 8*128+24*64 {
		t.Error(len(w.Jobs), len(w.Legs), e)
	}
	w.Jobs = append(w.Jobs, api.Job{Minutes: 1})
	if e := plan.CheckWork(w); e != api.ErrWork {
		t.Error(e)
	}
}

// greatestWork has as many jobs as may be, two of each spout, and all their legs.
func greatestWork() api.Work {
	w := api.Work{Change: api.MaxCost}
	for j := range api.MaxJobs {
		w.Jobs = append(w.Jobs, api.Job{Cost: api.MaxCost, Spout: j % api.MaxSpouts, Minutes: api.MaxMinutes})
	}
	for from := range 256 {
		for j := range 8 {
			for k := range j + 1 {
				add := 1<<j | 1<<k
				if from&add == 0 && (j == k || j != k+4) {
					w.Legs = append(w.Legs, api.Leg{From: from, Add: add})
				}
			}
		}
	}
	return w
}

// TestPairsOfLegs: two jobs run together by two spouts alone, whatever they are.
func TestPairsOfLegs(t *testing.T) {
	for a := range api.MaxSpouts {
		for b := range api.MaxSpouts {
			w := api.Work{Jobs: []api.Job{{Spout: a, Minutes: 1}, {Spout: b, Minutes: 1}}, Legs: legs(0, 3)}
			want := api.OK
			if a == b {
				want = api.ErrWork
			}
			if e := plan.CheckWork(w); e != want {
				t.Error(a, b, e)
			}
		}
	}
}

func TestPlansThatAreNone(t *testing.T) {
	w := exampleW()
	for _, l := range [][]int{{0, 1, 3}, {0, 2}, {4, 5, 3}} {
		if e := plan.CheckPlan(w, planOf(l...)); e != api.OK {
			t.Error(l, e)
		}
	}
	for _, l := range [][]int{
		nil, {}, {0}, {0, 1}, {3}, {1, 3}, {2}, {0, 3}, {0, 2, 3}, {0, 2, 0}, {0, 1, 3, 3}, {0, 0, 2}, {0, 4, 3}, {5, 4, 3}, {2, 0},
		{0, -1}, {-1, 0, 2}, {0, 6}, {6}, {0, 2, 6}, {0, 2, -1}, {math.MaxInt}, {math.MinInt}, {0, math.MaxInt},
	} {
		if e := plan.CheckPlan(w, planOf(l...)); e != api.ErrPlan {
			t.Error(l, e)
		}
		if n, e := plan.Cost(w, planOf(l...)); n != 0 || e != api.ErrPlan {
			t.Error(l, n, e)
		}
	}
	if e := plan.CheckPlan(withLegs(w), planOf()); e != api.ErrPlan {
		t.Error(e)
	}
	if e := plan.CheckPlan(withLegs(w), planOf(0)); e != api.ErrPlan {
		t.Error(e)
	}
}

// TestAllPlans tries all lists of indices for work of few legs.
func TestAllPlans(t *testing.T) {
	w := exampleW()
	plans := plansOf(w)
	lists := [][]int{nil}
	for i := 0; i < len(lists); i++ {
		l := lists[i]
		is := slices.ContainsFunc(plans, func(p []int) bool { return slices.Equal(p, l) })
		if e := plan.CheckPlan(w, planOf(l...)); is != (e == api.OK) {
			t.Error(l, e)
		}
		for next := range w.Legs {
			if len(l) < 4 {
				lists = append(lists, append(slices.Clone(l), next))
			}
		}
	}
}
