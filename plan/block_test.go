package plan_test

import (
	"math"
	"math/rand"
	"slices"
	"testing"

	"ullage/api"
	"ullage/plan"
)

func blockOf(from, to int, closed ...int) api.Block {
	return api.Block{From: from, To: to, Closed: closed}
}

func TestExamplesOfBlocks(t *testing.T) {
	if b, e := plan.Blocked(exampleW()); !sameBlock(b, api.Block{}) || e != api.ErrNone {
		t.Error(b, e)
	}
	few := withLegs(exampleW(), 0, 1, 0, 2)
	b, e := plan.Blocked(few)
	if !sameBlock(b, blockOf(1, 2, 0, 1, 2, 4)) || e != api.OK {
		t.Error(b, e)
	}
	if e := plan.CheckBlock(few, b); e != api.OK {
		t.Error(e)
	}
}

// TestBlocksByHand: each block is found by going through the legs by hand.
func TestBlocksByHand(t *testing.T) {
	three := exampleW()
	two := three
	two.Jobs = three.Jobs[:2]
	one := three
	one.Jobs = three.Jobs[:1]
	for _, x := range []struct {
		w    api.Work
		want api.Block
	}{
		{withLegs(one), blockOf(0, 1, 0)},
		{withLegs(two, 0, 1), blockOf(1, 2, 0, 1, 2)},
		{withLegs(two, 0, 1, 2, 1), blockOf(0, 2, 0, 1)},
		{withLegs(two, 1, 2), blockOf(0, 1, 0)},
		{withLegs(three, 0, 1, 2, 4), blockOf(2, 3, 0, 1, 2, 3, 4, 5, 6)},
		{withLegs(three, 0, 1, 2, 4, 6, 1), blockOf(0, 2, 0, 1)},
		{withLegs(three), blockOf(0, 1, 0)},
		{withLegs(three, 1, 2, 3, 4), blockOf(0, 1, 0)},
		{withLegs(three, 0, 1, 1, 2, 5, 2), blockOf(1, 3, 0, 1, 2, 3, 4)},
		{withLegs(three, 0, 1, 4, 3), blockOf(0, 2, 0, 1)},
		{withLegs(three, 0, 1, 1, 2, 2, 1, 4, 2, 6, 1), blockOf(0, 3, 0, 1, 3)},
		{withLegs(three, 0, 3), blockOf(2, 3, 0, 1, 2, 3, 4, 5, 6)},
	} {
		b, e := plan.Blocked(x.w)
		want, _ := wantBlocked(x.w)
		if !sameBlock(b, want) || e != api.OK {
			t.Errorf("%v: %v %d, want %v", x.w.Legs, b, e, want)
		}
		if !sameBlock(want, x.want) {
			t.Errorf("%v: %v by hand, %v by trying", x.w.Legs, x.want, want)
		}
	}
}

func TestBlocksThatAreNone(t *testing.T) {
	few := withLegs(exampleW(), 0, 1, 0, 2, 3, 4)
	for _, b := range []api.Block{
		blockOf(1, 2, 0, 1, 2, 4), blockOf(0, 2, 0, 1, 2), blockOf(0, 2, 0, 1, 2, 4), blockOf(0, 3, 0, 1, 2, 4), blockOf(1, 3, 0, 1, 2, 4), blockOf(1, 3, 0, 1, 2, 4, 6), blockOf(0, 3, 0, 1, 2, 5),
	} {
		if e := plan.CheckBlock(few, b); e != api.OK {
			t.Error(b, e)
		}
	}
	for _, b := range []api.Block{
		{}, blockOf(0, 0, 0), blockOf(1, 1, 0, 1, 2, 4), blockOf(2, 1, 0, 1, 2, 4), blockOf(-1, 2, 0, 1, 2, 4), blockOf(-1, 2), blockOf(1, 4, 0, 1, 2, 4), blockOf(3, 4, 0, 1, 2, 3, 4, 5, 6, 7), blockOf(math.MinInt, math.MaxInt, 0),
		blockOf(1, 2), blockOf(1, 2, 0, 1, 2), blockOf(1, 2, 0, 1, 4), blockOf(1, 2, 1, 2, 4), // a mask with few jobs is left out
		blockOf(1, 2, 0, 1, 2, 4, 6), blockOf(0, 3, 0, 1, 2, 7), blockOf(1, 3, 0, 1, 2, 4, 7), // one with many is there
		blockOf(0, 1, 0), blockOf(0, 2, 0, 1), blockOf(0, 2, 0, 2), blockOf(1, 3, 0, 1, 2, 3, 4), blockOf(2, 3, 0, 1, 2, 3, 4, 5, 6), // a leg leads out
		blockOf(1, 2, 0, 1, 1, 2, 4), blockOf(1, 2, 0, 2, 1, 4), blockOf(1, 2, 0, 0, 1, 2, 4), blockOf(1, 2, 0, 1, 2, 4, 4), // not rising
		blockOf(1, 2, 0, 1, 2, 4, 8), blockOf(1, 2, 0, 1, 2, 4, 16), blockOf(1, 2, -1, 0, 1, 2, 4), blockOf(1, 2, 0, 1, 2, 4, math.MaxInt), blockOf(1, 2, math.MinInt, 0, 1, 2, 4), // no masks
	} {
		if e := plan.CheckBlock(few, b); e != api.ErrBlock {
			t.Error(b, e)
		}
		if wantRight(few, b) {
			t.Error("right by the chapter's words:", b)
		}
	}
}

// subsetsOf has all lists of masks for few jobs, each rising.
func subsetsOf(masks int) [][]int {
	var all [][]int
	for set := range 1 << masks {
		var l []int
		for mask := range masks {
			if set>>mask%2 == 1 {
				l = append(l, mask)
			}
		}
		all = append(all, l)
	}
	return all
}

// TestAllBlocks is P5.3: for few jobs all blocks are tried.
func TestAllBlocks(t *testing.T) {
	right, wrong, planned := 0, 0, 0
	trials(53, 250, func(r *rand.Rand, w api.Work) {
		if len(w.Jobs) > 3 {
			return
		}
		least := math.MaxInt
		for _, closed := range subsetsOf(1 << len(w.Jobs)) {
			for to := range len(w.Jobs) + 2 {
				for from := range to + 1 {
					b := blockOf(from, to, closed...)
					e := plan.CheckBlock(w, b)
					if wantRight(w, b) != (e == api.OK) || e != api.OK && e != api.ErrBlock {
						t.Errorf("%v: %v: %d", w, b, e)
					}
					if e == api.OK {
						least = min(least, to-from)
						right++
					} else {
						wrong++
					}
				}
			}
		}
		b, e := plan.Blocked(w)
		if hasPlan(w) {
			planned++
			if least < math.MaxInt || e != api.ErrNone || !sameBlock(b, api.Block{}) {
				t.Errorf("%v has a plan: %v %d", w, b, e)
			}
		} else if e != api.OK || plan.CheckBlock(w, b) != api.OK || b.To-b.From != least {
			t.Errorf("%v: %v %d, but some block has %d", w, b, e, least)
		}
	})
	if right < 200 || wrong < 10000 || planned < 20 {
		t.Error("too few cases:", right, wrong, planned)
	}
}

// TestBlocksOfRandomWork holds blocks against the first one of all pairs of numbers.
func TestBlocksOfRandomWork(t *testing.T) {
	far, later := 0, 0
	trials(54, 1500, func(r *rand.Rand, w api.Work) {
		want, blocked := wantBlocked(w)
		b, e := plan.Blocked(w)
		if !sameBlock(b, want) || blocked != (e == api.OK) || !blocked && e != api.ErrNone {
			t.Errorf("%v: %v %d, want %v", w, b, e, want)
		}
		if blocked == hasPlan(w) {
			t.Error("a block and a plan, or none of both:", w)
		}
		if e := plan.CheckBlock(w, b); blocked != (e == api.OK) {
			t.Errorf("%v: %v: %d", w, b, e)
		}
		if b.To-b.From > 1 {
			far++
		}
		if b.From > 0 {
			later++
		}
	})
	if far < 10 || later < 10 {
		t.Error("too few cases:", far, later)
	}
}

// TestBlocksOfManyJobs: a leg that is left out of a chain of eight jobs blocks it.
func TestBlocksOfManyJobs(t *testing.T) {
	for gone := range 8 {
		w := greatestWork()
		w.Legs = slices.DeleteFunc(w.Legs, func(l api.Leg) bool { return jobsIn(l.From) <= gone && jobsIn(l.From+l.Add) > gone })
		b, e := plan.Blocked(w)
		if b.From != gone || b.To != gone+1 || e != api.OK || plan.CheckBlock(w, b) != api.OK {
			t.Error(gone, b, e)
		}
		for _, mask := range b.Closed {
			if jobsIn(mask) > gone {
				t.Error(gone, b)
			}
		}
	}
}
