package voyage_test

import (
	"math"
	"math/rand"
	"slices"
	"testing"

	"ullage/api"
	"ullage/voyage"
)

// exampleLegs has the legs of the chapter's examples.
func exampleLegs() []api.Leg { return legs(0, 2, 2, 1, 0, 3) }

// oddPlans are no plans for two jobs.
func oddPlans() [][]int {
	return [][]int{nil, {1}, {2}, {0}, {1, 2, 0}, {0, 3}, {1, 3}, {3, 3}, {1, 1}, {4}, {1, 2, 4}, {3, 4}, {-1}, {-1, 3}, {3, -4}, {1, math.MaxInt}, {math.MinInt, 1, 2}, {256, 3}}
}

func expectChain(t *testing.T, l []api.Leg, jobs int, p []int, e api.Errno) {
	t.Helper()
	if f := voyage.CheckChain(l, jobs, p); f != e {
		t.Errorf("CheckChain of %v, %d and %v: %d, want %d", l, jobs, p, f, e)
	}
}

func TestCheckChain(t *testing.T) {
	l := exampleLegs()
	expectChain(t, l, 2, []int{2, 1}, api.OK)
	expectChain(t, l, 2, []int{3}, api.OK)
	expectChain(t, l, 2, []int{1, 2}, api.ErrMoved)
	expectChain(t, nil, 2, []int{1, 2}, api.ErrMoved)
	// There is a leg with this Add, but not from there.
	expectChain(t, legs(0, 1, 4, 2, 3, 4, 1, 6), 3, []int{1, 2, 4}, api.ErrMoved)
	expectChain(t, legs(0, 1, 1, 2, 3, 4, 1, 6), 3, []int{1, 2, 4}, api.OK)
	expectChain(t, legs(0, 1), 1, []int{1}, api.OK)
	expectChain(t, legs(0, 255), 8, []int{255}, api.OK)
	for _, p := range oddPlans() {
		expectChain(t, l, 2, p, api.ErrPlan)
	}
	for _, jobs := range []int{0, -1, 9, 64, math.MinInt, math.MaxInt} {
		expectChain(t, slices.Repeat(legs(-1, 0), 3001), jobs, nil, api.ErrArg)
	}
	// Equal legs may be, up to 3000 of them.
	expectChain(t, slices.Repeat(legs(0, 2, 2, 1), 1500), 2, []int{2, 1}, api.OK)
	expectChain(t, slices.Repeat(legs(0, 2, 2, 1, -1, 0), 1001), 2, nil, api.ErrLong)
	for _, odd := range [][]api.Leg{legs(-1, 1), legs(4, 1), legs(0, 0), legs(0, 4), legs(0, -1), legs(1, 1), legs(3, 2), legs(math.MinInt, math.MaxInt), legs(2, 1, 0, 5)} {
		expectChain(t, odd, 2, nil, api.ErrArg)
	}
}

func expectMoved(t *testing.T, a, b []int, want int, e api.Errno) {
	t.Helper()
	if got, f := voyage.Moved(a, b); got != want || f != e {
		t.Errorf("Moved of %v and %v: %d %d, want %d %d", a, b, got, f, want, e)
	}
}

func TestMoved(t *testing.T) {
	expectMoved(t, []int{1, 2, 4}, []int{2, 1, 4}, 1, api.OK)
	expectMoved(t, []int{1, 2, 4}, []int{4, 1, 2}, 4, api.OK)
	expectMoved(t, []int{1, 2, 4}, []int{4, 2, 1}, 3, api.OK)
	expectMoved(t, []int{1, 2, 4}, []int{1, 2, 4}, 0, api.OK)
	expectMoved(t, []int{3, 4}, []int{3, 4}, 0, api.OK)
	expectMoved(t, []int{1}, []int{1}, 0, api.OK)
	// What stood together and does not any more is moved, and the other way round.
	expectMoved(t, []int{1, 2}, []int{3}, 1, api.OK)
	expectMoved(t, []int{3}, []int{1, 2}, 1, api.OK)
	expectMoved(t, []int{7}, []int{1, 6}, 1, api.OK)
	expectMoved(t, []int{7}, []int{4, 3}, 4, api.OK)
	expectMoved(t, []int{3, 4}, []int{4, 3}, 4, api.OK)
	expectMoved(t, []int{3, 12}, []int{12, 3}, 3, api.OK)
	expectMoved(t, []int{255}, []int{1, 2, 4, 8, 16, 32, 64, 128}, 127, api.OK)
	expectMoved(t, []int{1, 2, 4, 8, 16, 32, 64, 128}, []int{128, 1, 2, 4, 8, 16, 32, 64}, 128, api.OK)
	for _, p := range oddPlans() {
		expectMoved(t, p, []int{1, 2}, 0, api.ErrPlan)
		expectMoved(t, []int{1, 2}, p, 0, api.ErrPlan)
	}
	// Jobs are numbered from 0 on without a gap, and there are at most 8.
	for _, p := range [][]int{nil, {0}, {2}, {1, 4}, {5}, {128}, {126}, {255, 256}, {511}, {1, 1}, {1, 3}, {1, 2, 0}, {-1}, {math.MaxInt}, {math.MinInt}} {
		expectMoved(t, p, p, 0, api.ErrPlan)
	}
	expectMoved(t, []int{1, 2}, []int{1, 2, 4}, 0, api.ErrPlan)
	expectMoved(t, []int{1, 2, 4}, []int{1, 2}, 0, api.ErrPlan)
}

func expectChange(t *testing.T, l []api.Leg, jobs int, told, want []int, moved int, e api.Errno) {
	t.Helper()
	if got, n, f := voyage.Change(l, jobs, told); !slices.Equal(got, want) || n != moved || f != e {
		t.Errorf("Change of %v, %d and %v: %v %d %d, want %v %d %d", l, jobs, told, got, n, f, want, moved, e)
	}
}

func TestChange(t *testing.T) {
	l := exampleLegs()
	expectChange(t, l, 2, []int{1, 2}, []int{2, 1}, 1, api.OK)
	expectChange(t, l, 2, []int{3}, []int{3}, 0, api.OK)
	expectChange(t, l, 2, []int{2, 1}, []int{2, 1}, 0, api.OK)
	expectChange(t, l[2:], 2, []int{1, 2}, []int{3}, 1, api.OK)
	expectChange(t, l[:1], 2, []int{1, 2}, nil, 0, api.ErrNone)
	expectChange(t, nil, 2, []int{1, 2}, nil, 0, api.ErrNone)
	expectChange(t, legs(0, 1), 1, []int{1}, []int{1}, 0, api.OK)
	// Of the plans that move the job 0 alone the first one, whatever the order of the legs.
	expectChange(t, legs(2, 5, 2, 4, 6, 1, 0, 2), 3, []int{1, 2, 4}, []int{2, 4, 1}, 1, api.OK)
	expectChange(t, legs(3, 4, 0, 3, 2, 5, 0, 2), 3, []int{1, 2, 4}, []int{2, 5}, 1, api.OK)
	// A plan that moves the job 0 is ahead of those that move the job 1, also if these are ahead in order.
	expectChange(t, legs(0, 1, 1, 6, 0, 2, 2, 1, 3, 4), 3, []int{1, 2, 4}, []int{2, 1, 4}, 1, api.OK)
	// One that moves a job is ahead of those that move two, whatever the masks.
	expectChange(t, legs(0, 4, 4, 2, 6, 1, 4, 1, 5, 2), 3, []int{1, 2, 4}, []int{4, 1, 2}, 4, api.OK)
	for _, p := range oddPlans() {
		expectChange(t, l, 2, p, nil, 0, api.ErrPlan)
		expectChange(t, nil, 2, p, nil, 0, api.ErrPlan)
	}
	expectChange(t, l, 0, nil, nil, 0, api.ErrArg)
	expectChange(t, l, 9, nil, nil, 0, api.ErrArg)
	expectChange(t, l, 1, nil, nil, 0, api.ErrArg)
	expectChange(t, slices.Repeat(l, 1001), 2, nil, nil, 0, api.ErrLong)
	expectChange(t, slices.Repeat(l, 1000), 2, []int{1, 2}, []int{2, 1}, 1, api.OK)
}

func expectCheckChange(t *testing.T, l []api.Leg, jobs int, told, p []int, e api.Errno) {
	t.Helper()
	if f := voyage.CheckChange(l, jobs, told, p); f != e {
		t.Errorf("CheckChange of %v, %d, %v and %v: %d, want %d", l, jobs, told, p, f, e)
	}
}

func TestCheckChange(t *testing.T) {
	l := exampleLegs()
	expectCheckChange(t, l, 2, []int{1, 2}, []int{2, 1}, api.OK)
	// It moves as many jobs, though Change returns another one.
	expectCheckChange(t, l, 2, []int{1, 2}, []int{3}, api.OK)
	expectCheckChange(t, l, 2, []int{3}, []int{3}, api.OK)
	expectCheckChange(t, l, 2, []int{3}, []int{2, 1}, api.ErrMoved)
	// It moves nothing, but is not allowed; and so where nothing is.
	expectCheckChange(t, l, 2, []int{1, 2}, []int{1, 2}, api.ErrMoved)
	expectCheckChange(t, nil, 2, []int{1, 2}, []int{1, 2}, api.ErrMoved)
	// As many jobs as the least change moves, with a greater mask.
	three := legs(0, 1, 1, 6, 0, 2, 2, 1, 3, 4)
	expectCheckChange(t, three, 3, []int{1, 2, 4}, []int{1, 6}, api.OK)
	expectCheckChange(t, legs(0, 4, 4, 2, 6, 1, 4, 1, 5, 2), 3, []int{1, 2, 4}, []int{4, 2, 1}, api.ErrMoved)
	for _, p := range oddPlans() {
		expectCheckChange(t, l, 2, p, []int{1, 2}, api.ErrPlan)
		expectCheckChange(t, l, 2, []int{3}, p, api.ErrPlan)
		expectCheckChange(t, legs(0, 0), 2, p, p, api.ErrArg)
	}
	expectCheckChange(t, l, 0, nil, nil, api.ErrArg)
	expectCheckChange(t, slices.Repeat(l, 1001), 2, nil, nil, api.ErrLong)
}

func TestChangesPlainly(t *testing.T) {
	r := rand.New(rand.NewSource(77))
	found := map[string]int{}
	for range 600 {
		jobs := 1 + r.Intn(4)
		all, l, told := plansFor(jobs), someLegs(r, jobs, 15+r.Intn(50)), somePlan(r, jobs)
		want, moved, e := changeOf(l, jobs, told)
		expectChange(t, l, jobs, told, want, moved, e)
		for _, p := range all {
			n := movedIn(told, p, jobs)
			expectMoved(t, told, p, n, api.OK)
			allowed := allows(l, p)
			chain, check := api.ErrMoved, api.ErrMoved
			if allowed {
				chain = api.OK
			}
			if allowed && jobsIn(n) == jobsIn(moved) {
				check = api.OK
			}
			expectChain(t, l, jobs, p, chain)
			expectCheckChange(t, l, jobs, told, p, check)
		}
		switch {
		case e != api.OK:
			found["none"]++
		case moved == 0:
			found["told"]++
		default:
			found["other"]++
		}
	}
	for _, what := range []string{"none", "told", "other"} {
		if found[what] < 50 {
			t.Error("too few cases:", what, found[what])
		}
	}
}

// TestChangeOfFive: more jobs, few legs.
func TestChangeOfFive(t *testing.T) {
	r := rand.New(rand.NewSource(78))
	for range 20 {
		l, told := someLegs(r, 5, 15), somePlan(r, 5)
		want, moved, e := changeOf(l, 5, told)
		expectChange(t, l, 5, told, want, moved, e)
	}
}
