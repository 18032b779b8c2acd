package voyage_test

import (
	"math"
	"math/rand"
	"slices"
	"testing"

	"ullage/api"
	"ullage/voyage"
)

// exampleC has the clock of the chapter's examples.
func exampleC() []api.Clock { return []api.Clock{clock(1, 100, 20, 30)} }

// latest are as many clocks as there may be, as late and as long as may be.
func latest() []api.Clock {
	return slices.Repeat([]api.Clock{clock(8, api.MaxMinute, api.MaxMinute, api.MaxMinute)}, api.MaxClocks)
}

func TestCheckClocks(t *testing.T) {
	for _, x := range []struct {
		l []api.Clock
		e api.Errno
	}{
		{nil, api.OK},
		{[]api.Clock{{}}, api.OK},
		{exampleC(), api.OK},
		{latest(), api.OK},
		{append(latest(), clock(0, 0, 0, 0)), api.ErrLong},
		{append(latest(), clock(9, 0, 0, 0)), api.ErrLong},
		{[]api.Clock{clock(9, 0, 0, 0)}, api.ErrClock},
		{[]api.Clock{clock(-1, 0, 0, 0)}, api.ErrClock},
		{[]api.Clock{clock(0, -1, 0, 0)}, api.ErrClock},
		{[]api.Clock{clock(0, api.MaxMinute+1, 0, 0)}, api.ErrClock},
		{[]api.Clock{clock(0, 0, -1, 0)}, api.ErrClock},
		{[]api.Clock{clock(0, 0, 1, 0)}, api.ErrClock},
		{[]api.Clock{clock(0, 0, 0, api.MaxMinute+1)}, api.ErrClock},
		{[]api.Clock{clock(0, 0, 0, 0), clock(0, math.MaxInt, 0, math.MaxInt)}, api.ErrClock},
	} {
		if e := voyage.CheckClocks(x.l); e != x.e {
			t.Errorf("CheckClocks of %v: %d, want %d", x.l, e, x.e)
		}
		if n, e := voyage.Closed(x.l, 0, 2000000); n != 0 || e != x.e {
			t.Errorf("Closed of %v: %d %d, want %d", x.l, n, e, x.e)
		}
	}
}

func expectClosed(t *testing.T, l []api.Clock, hold, minute, want int, e api.Errno) {
	t.Helper()
	if got, f := voyage.Closed(l, hold, minute); got != want || f != e {
		t.Errorf("Closed of %v, %d and %d: %d %d, want %d %d", l, hold, minute, got, f, want, e)
	}
}

func TestClosed(t *testing.T) {
	l := exampleC()
	for minute, want := range map[int]int{0: api.No, 99: api.No, 100: api.Yes, 119: api.Yes, 120: api.Maybe, 129: api.Maybe, 130: api.No, 2 * api.MaxMinute: api.No} {
		expectClosed(t, l, 1, minute, want, api.OK)
		expectClosed(t, l, 0, minute, api.No, api.OK)
	}
	// Each clock takes its own number of minutes: two that may be do not make one that is.
	two := []api.Clock{clock(1, 100, 0, 30), clock(1, 100, 10, 20), clock(2, 100, 50, 50)}
	for minute, want := range map[int]int{99: api.No, 100: api.Yes, 109: api.Yes, 110: api.Maybe, 119: api.Maybe, 120: api.Maybe, 129: api.Maybe, 130: api.No} {
		expectClosed(t, two, 1, minute, want, api.OK)
	}
	expectClosed(t, []api.Clock{clock(1, 100, 0, 0)}, 1, 100, api.No, api.OK)
	expectClosed(t, []api.Clock{clock(1, 100, 0, 1)}, 1, 100, api.Maybe, api.OK)
	expectClosed(t, latest(), 8, 2*api.MaxMinute-1, api.Yes, api.OK)
	expectClosed(t, latest(), 8, 2*api.MaxMinute, api.No, api.OK)
	for _, hold := range []int{-1, 9, math.MaxInt} {
		expectClosed(t, l, hold, 100, 0, api.ErrArg)
	}
	for _, minute := range []int{-1, 2*api.MaxMinute + 1, math.MinInt} {
		expectClosed(t, l, 1, minute, 0, api.ErrArg)
	}
	expectClosed(t, []api.Clock{clock(9, 0, 0, 0)}, -1, -1, 0, api.ErrClock)
}

func expectOpen(t *testing.T, l []api.Clock, holds []int, minute, want int, e api.Errno) {
	t.Helper()
	if got, f := voyage.Open(l, holds, minute); got != want || f != e {
		t.Errorf("Open of %v, %v and %d: %d %d, want %d %d", l, holds, minute, got, f, want, e)
	}
}

func TestOpen(t *testing.T) {
	l := exampleC()
	expectOpen(t, l, []int{0, 1}, 90, 90, api.OK)
	expectOpen(t, l, []int{0, 1}, 100, 130, api.OK)
	expectOpen(t, l, []int{0, 1}, 129, 130, api.OK)
	expectOpen(t, l, []int{0, 1}, 130, 130, api.OK)
	expectOpen(t, l, []int{0, 2}, 100, 100, api.OK)
	expectOpen(t, l, nil, 100, 100, api.OK)
	expectOpen(t, nil, []int{0, 1}, 100, 100, api.OK)
	// One closes when the other one opens, in another hold, and listed ahead of it.
	chain := []api.Clock{clock(2, 130, 1, 5), clock(1, 100, 20, 30), clock(3, 135, 2, 2), clock(1, 137, 0, 0), clock(4, 137, 9, 9)}
	expectOpen(t, chain, []int{1, 2, 3}, 100, 137, api.OK)
	expectOpen(t, chain, []int{3, 1, 2, 1}, 100, 137, api.OK)
	expectOpen(t, chain, []int{1, 3}, 100, 130, api.OK)
	expectOpen(t, latest(), []int{8}, api.MaxMinute, 2*api.MaxMinute, api.OK)
	expectOpen(t, latest(), []int{8}, 2*api.MaxMinute, 2*api.MaxMinute, api.OK)
	expectOpen(t, l, slices.Repeat([]int{1}, 1000), 100, 130, api.OK)
	for _, hold := range []int{-1, 9, math.MinInt} {
		expectOpen(t, l, []int{1, hold}, 100, 0, api.ErrArg)
	}
	for _, minute := range []int{-1, 2*api.MaxMinute + 1} {
		expectOpen(t, l, nil, minute, 0, api.ErrArg)
	}
	expectOpen(t, append(latest(), l...), []int{9}, -1, 0, api.ErrLong)
}

func expectFree(t *testing.T, l []api.Clock, hold, from, to int, want []api.Range, e api.Errno) {
	t.Helper()
	if got, f := voyage.Free(l, hold, from, to); !slices.Equal(got, want) || f != e {
		t.Errorf("Free of %v, %d, %d and %d: %v %d, want %v %d", l, hold, from, to, got, f, want, e)
	}
}

func TestFree(t *testing.T) {
	l := append(exampleC(), clock(1, 125, 10, 10))
	expectFree(t, l, 1, 90, 140, ranges(span(90, 99), span(135, 140)), api.OK)
	expectFree(t, l, 1, 99, 135, ranges(one(99), one(135)), api.OK)
	expectFree(t, l, 1, 100, 134, nil, api.OK)
	expectFree(t, l, 1, 100, 100, nil, api.OK)
	expectFree(t, l, 1, 99, 99, ranges(one(99)), api.OK)
	expectFree(t, l, 1, 50, 60, ranges(span(50, 60)), api.OK)
	expectFree(t, l, 0, 90, 140, ranges(span(90, 140)), api.OK)
	expectFree(t, nil, 1, 0, 2*api.MaxMinute, ranges(span(0, 2*api.MaxMinute)), api.OK)
	// Clocks of no minute, and those of other holds, part no run.
	expectFree(t, []api.Clock{clock(1, 100, 0, 0), clock(2, 105, 5, 5), clock(1, 107, 0, 1)}, 1, 90, 110, ranges(span(90, 106), span(108, 110)), api.OK)
	expectFree(t, latest(), 8, 0, 2*api.MaxMinute, ranges(span(0, api.MaxMinute-1), one(2*api.MaxMinute)), api.OK)
	var many []api.Clock
	var runs []api.Range
	for i := range api.MaxClocks {
		many = append(many, clock(0, 2*i, 0, 1))
		runs = append(runs, one(2*i+1))
	}
	expectFree(t, many, 0, 0, 39, runs, api.OK)
	expectFree(t, l, 1, 100, 99, nil, api.ErrArg)
	expectFree(t, l, -1, 100, 100, nil, api.ErrArg)
	expectFree(t, l, 9, 100, 100, nil, api.ErrArg)
	expectFree(t, l, 1, -1, 100, nil, api.ErrArg)
	expectFree(t, l, 1, 0, 2*api.MaxMinute+1, nil, api.ErrArg)
	expectFree(t, l, 1, math.MaxInt, math.MinInt, nil, api.ErrArg)
	expectFree(t, []api.Clock{clock(0, 0, 1, 0)}, 9, 1, 0, nil, api.ErrClock)
}

// someClocks are few, of few holds and minutes.
func someClocks(r *rand.Rand) []api.Clock {
	var l []api.Clock
	for range r.Intn(4) {
		l = append(l, api.Clock{Hold: r.Intn(3), From: r.Intn(10), For: someRange(r, span(0, 4))})
	}
	return l
}

func TestClocksPlainly(t *testing.T) {
	r := rand.New(rand.NewSource(75))
	for range 500 {
		l := someClocks(r)
		for minute := range 16 {
			expectClosed(t, l, minute%3, minute, closedAt(l, minute%3, minute), api.OK)
		}
		holds := [][]int{{0}, {1, 2}, {2, 0, 1}}[r.Intn(3)]
		from := r.Intn(16)
		first := from
		for !areOpen(l, holds, first) {
			first++
		}
		expectOpen(t, l, holds, from, first, api.OK)
		hold, to := r.Intn(3), from+r.Intn(20)
		free := runsOf(span(from, to), func(minute int) bool { return areOpen(l, []int{hold}, minute) })
		expectFree(t, l, hold, from, to, free, api.OK)
	}
}
