package desk_test

import (
	"slices"
	"testing"

	"ullage/api"
	"ullage/desk"
)

// legs are legs of pairs of numbers.
func legs(n ...int) []api.Leg {
	var l []api.Leg
	for i := 0; i < len(n); i += 2 {
		l = append(l, api.Leg{From: n[i], Add: n[i+1]})
	}
	return l
}

// expectWork expects the legs of the work of tasks, whose change is 7.
func expectWork(t *testing.T, v api.Voyage, l []api.Task, want []api.Leg) {
	t.Helper()
	w, e := desk.Work(v, l, 7)
	var jobs []api.Job
	for _, x := range l {
		jobs = append(jobs, x.Job)
	}
	if !slices.Equal(w.Jobs, jobs) || w.Change != 7 || !slices.Equal(w.Legs, want) || e != api.OK {
		t.Errorf("%v %d, want %v", w, e, want)
	}
}

func TestWork(t *testing.T) {
	v := exampleVoyage()
	both := legs(0, 1, 0, 2, 0, 3, 1, 2, 2, 1)
	apart := legs(0, 1, 0, 2, 1, 2, 2, 1)
	expectWork(t, v, []api.Task{task(0, 1, 3000), task(1, 2, 4000)}, both)
	expectWork(t, v, []api.Task{task(2, 1, 3000)}, legs(0, 1))
	// Two jobs of one spout are not done together, nor two pours into one hold.
	expectWork(t, v, []api.Task{task(1, 1, 3000), task(1, 2, 4000)}, apart)
	expectWork(t, v, []api.Task{task(0, 1, 3000), task(1, 1, 4000)}, apart)
	// Together both are too much.
	expectWork(t, v, []api.Task{task(0, 1, 3000), task(1, 2, 9000)}, legs(0, 1, 0, 2))
	expectWork(t, v, []api.Task{task(0, 1, 13000), task(1, 2, 9000)}, legs(0, 2))
	expectWork(t, v, []api.Task{task(0, 1, 13000)}, nil)
	// What has no room has no voyage, and neither has what comes behind it.
	expectWork(t, v, []api.Task{task(0, 1, 40000), task(1, 2, 4000)}, legs(0, 2))
	v.Code.Rules = nil
	expectWork(t, v, []api.Task{task(0, 1, 20000), task(1, 1, 20000), task(2, 2, 4000)}, legs(0, 1, 0, 2, 0, 4, 0, 5, 0, 6, 1, 4, 2, 4, 4, 1, 4, 2))
	// Behind the drafts that are known nothing is sure.
	v.Ship.Drafts = plain(0, 0, 25, 25000)
	expectWork(t, v, []api.Task{task(0, 1, 3000), task(1, 2, 4000)}, legs(0, 1, 0, 2))
	// What is broken from the beginning is broken on each way.
	v = exampleVoyage()
	v.Day = 20
	expectWork(t, v, []api.Task{task(0, 1, 3000), task(1, 2, 4000)}, nil)
	// Tasks are poured by rising indices, in whatever order they are done: where they meet in one hold this is what counts.
	v = exampleVoyage()
	v.Fills[0] = partly(1, 2900, 3000)
	l := []api.Task{task(0, 1, 3000), task(1, 1, 2000)}
	l[0].Pour.Density, l[1].Pour.Density = span(700, 800), span(900, 1100)
	w, e := desk.Work(v, l, 0)
	if want, f := wantWork(v, l, 0); !same(w, want) || e != f {
		t.Error(w, e, want, f)
	}
}

// TestFourTasks: as many as there may be.
func TestFourTasks(t *testing.T) {
	v := exampleVoyage()
	v.Holds, v.Fills = append(v.Holds, exampleHold(3), exampleHold(9)), append(v.Fills, api.Fill{Hold: 3}, api.Fill{Hold: 9})
	l := []api.Task{task(0, 9, 1000), task(1, 2, 1500), task(2, 1, 1000), task(3, 3, 500)}
	w, e := desk.Work(v, l, 7)
	if want, f := wantWork(v, l, 7); !same(w, want) || e != api.OK || f != api.OK || len(w.Legs) != 4*8+6*4 {
		t.Error(len(w.Legs), e, len(want.Legs), f)
	}
}

func TestWorkErrors(t *testing.T) {
	v := exampleVoyage()
	good := task(0, 1, 3000)
	with := func(change func(x *api.Task)) api.Task {
		x := good
		change(&x)
		return x
	}
	spout := with(func(x *api.Task) { x.Job.Spout = 4 })
	cost := with(func(x *api.Task) { x.Job.Cost = 100001 })
	nowhere := with(func(x *api.Task) { x.Pour.Hold = 3 })
	backward := with(func(x *api.Task) { x.Pour.Mass = span(3, 2) })
	wide := with(func(x *api.Task) { x.Pour.Mass = span(0, api.MaxWide+1) })
	less := with(func(x *api.Task) { x.Pour.Mass = span(-1, 2) })
	thin := with(func(x *api.Task) { x.Pour.Density = span(99, 1000) })
	dense := with(func(x *api.Task) { x.Pour.Density = span(1000, 2001) })
	turned := with(func(x *api.Task) { x.Pour.Density = span(1000, 999) })
	all := func(l ...func(x *api.Task)) api.Task {
		return with(func(x *api.Task) {
			for _, change := range l {
				change(x)
			}
		})
	}
	noHold := func(x *api.Task) { x.Pour.Hold = -1 }
	noRange := func(x *api.Task) { x.Pour.Mass = span(-3, -4) }
	noMass := func(x *api.Task) { x.Pour.Mass = span(-3, 4) }
	noDensity := func(x *api.Task) { x.Pour.Density = at(0) }
	for i, c := range []struct {
		l      []api.Task
		change int
		e      api.Errno
	}{
		{nil, -1, api.ErrNone},
		{[]api.Task{}, 0, api.ErrNone},
		{slices.Repeat([]api.Task{spout}, 5), -1, api.ErrLong},
		{[]api.Task{good, spout}, 0, api.ErrWork},
		{[]api.Task{cost, good}, 0, api.ErrWork},
		{[]api.Task{good}, -1, api.ErrWork},
		{[]api.Task{good}, 100001, api.ErrWork},
		{[]api.Task{good}, 100000, api.OK},
		{[]api.Task{nowhere, spout}, 0, api.ErrWork},
		{[]api.Task{good, nowhere}, 0, api.ErrHold},
		{[]api.Task{backward}, 0, api.ErrRange},
		{[]api.Task{wide}, 0, api.ErrRange},
		{[]api.Task{less}, 0, api.ErrArg},
		{[]api.Task{thin}, 0, api.ErrFill},
		{[]api.Task{dense}, 0, api.ErrFill},
		{[]api.Task{turned}, 0, api.ErrFill},
		{[]api.Task{good, thin, less}, 0, api.ErrFill},
		{[]api.Task{good, less, thin}, 0, api.ErrArg},
		{[]api.Task{less, nowhere}, 0, api.ErrArg},
		{[]api.Task{all(noHold, noRange, noDensity)}, 0, api.ErrHold},
		{[]api.Task{all(noRange, noDensity)}, 0, api.ErrRange},
		{[]api.Task{all(noMass, noDensity)}, 0, api.ErrArg},
	} {
		w, e := desk.Work(v, c.l, c.change)
		if e != c.e || e != api.OK && !same(w, api.Work{}) {
			t.Error(i, w, e, "want", c.e)
		}
		if want, f := wantWork(v, c.l, c.change); f != c.e || !same(want, w) {
			t.Error("the oracle:", i, want, f, "want", c.e)
		}
	}
}
