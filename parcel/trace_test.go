package parcel_test

import (
	"math"
	"slices"
	"testing"

	"ullage/api"
	"ullage/parcel"
)

func expectTrace(t *testing.T, lots []api.Lot, l []api.Deed, lot int, want []api.Trail, e api.Errno) {
	t.Helper()
	if x, f := parcel.Trace(lots, l, lot); !slices.Equal(x, want) || f != e {
		t.Errorf("Trace(%v, %v, %d) = %v, %d; expected %v, %d", lots, l, lot, x, f, want, e)
	}
}

func expectReach(t *testing.T, lots []api.Lot, l []api.Deed, lot int, want []int, e api.Errno) {
	t.Helper()
	if x, f := parcel.Reach(lots, l, lot); !slices.Equal(x, want) || f != e {
		t.Errorf("Reach(%v, %v, %d) = %v, %d; expected %v, %d", lots, l, lot, x, f, want, e)
	}
}

// expectApart tries both orders of the lots.
func expectApart(t *testing.T, lots []api.Lot, l []api.Deed, a, b int, want bool, i int, e api.Errno) {
	t.Helper()
	for range 2 {
		if is, at, f := parcel.Apart(lots, l, a, b); is != want || at != i || f != e {
			t.Errorf("Apart(%v, %v, %d, %d) = %v, %d, %d; expected %v, %d, %d", lots, l, a, b, is, at, f, want, i, e)
		}
		a, b = b, a
	}
}

func TestTrace(t *testing.T) {
	lots, l := exampleLots(), exampleDeeds()
	expectTrace(t, lots, l, 1, []api.Trail{{Deed: 0, Mass: 60}, {Deed: 2, Mass: 30}, {Deed: 4, Mass: 6}}, api.OK)
	expectTrace(t, lots, l, 2, []api.Trail{{Deed: 1, Mass: 40}, {Deed: 2, Mass: 20}, {Deed: 4, Mass: 4}}, api.OK)
	expectTrace(t, lots, l, 3, []api.Trail{{Deed: 3, Mass: 10}, {Deed: 4, Mass: 10}}, api.OK)
	expectTrace(t, lots, l[1:2], 1, nil, api.OK)
	expectTrace(t, lots, nil, 1, nil, api.OK)
	// Mixing moves nothing, and rounding may let a lot stay.
	expectTrace(t, lots, []api.Deed{pour(1, 0, 1), lay(2, 0, 99), mix(0), draw(0, 10), lose(0, 89), lose(0, 1)}, 1, []api.Trail{{Deed: 0, Mass: 1}, {Deed: 4, Mass: 1}}, api.OK)
}

func TestReach(t *testing.T) {
	lots, l := exampleLots(), exampleDeeds()
	expectReach(t, lots, l, 1, []int{0, 4}, api.OK)
	expectReach(t, lots, l, 2, []int{0, 4}, api.OK)
	expectReach(t, lots, l, 3, []int{4}, api.OK)
	expectReach(t, lots, l[:3], 3, nil, api.OK)
	expectReach(t, lots, nil, 3, nil, api.OK)
	// Rounding takes no part of the lot 1 along, or leaves none: both heaps may have it.
	few := []api.Deed{pour(1, 0, 1), pour(2, 0, 99), shift(0, 5, 10)}
	expectReach(t, lots, few, 1, []int{0, 5}, api.OK)
	expectReach(t, lots, []api.Deed{few[0], few[1], shift(0, 5, 50)}, 1, []int{0, 5}, api.OK)
	expectReach(t, lots, append(few, shift(5, 6, 10)), 1, []int{0, 6}, api.OK)
	expectReach(t, lots, append(few, draw(0, 90)), 1, []int{5}, api.OK)
	expectReach(t, lots, append(few, lose(0, 90), draw(5, 10)), 1, nil, api.OK)
	expectReach(t, lots, append(few, draw(5, 1), lose(0, 89)), 1, []int{0, 5}, api.OK)
	// Nothing is taken of a heap below, and a heap on a mat has nothing of it.
	mats := []api.Deed{lay(1, 0, 5), lay(2, 0, 5), lay(3, 0, 5)}
	expectReach(t, lots, append(mats, shift(0, 1, 5)), 2, []int{0}, api.OK)
	expectReach(t, lots, append(mats, shift(0, 1, 5)), 3, []int{1}, api.OK)
	expectReach(t, lots, append(mats, shift(0, 1, 6)), 2, []int{0, 1}, api.OK)
	expectReach(t, lots, append(mats, shift(0, 1, 10)), 2, []int{1}, api.OK)
	expectReach(t, lots, append(mats, shift(0, 1, 15)), 1, []int{1}, api.OK)
	expectReach(t, lots, append(mats, mix(0), shift(0, 8, 1)), 2, []int{0, 8}, api.OK)
	expectReach(t, lots, append(mats, mix(0), shift(0, 8, 1)), 1, []int{0}, api.OK)
	expectReach(t, lots, append(mats, lose(0, 14)), 2, nil, api.OK)
	expectReach(t, lots, append(mats, lose(0, 13)), 2, []int{0}, api.OK)
	// What is poured onto a heap, or into a hold that was emptied.
	expectReach(t, lots, append(mats, pour(1, 0, 1), shift(0, 2, 1)), 1, []int{0, 2}, api.OK)
	expectReach(t, lots, []api.Deed{pour(1, 0, 5), draw(0, 5), pour(2, 0, 5)}, 1, nil, api.OK)
	expectReach(t, lots, []api.Deed{pour(1, 0, 5), lose(0, 5), lay(2, 0, 5)}, 1, nil, api.OK)
}

func TestApart(t *testing.T) {
	lots, l := exampleLots(), exampleDeeds()
	expectApart(t, lots, l, 1, 3, false, 4, api.OK)
	expectApart(t, lots, l, 1, 2, false, 1, api.OK)
	expectApart(t, lots, l, 2, 3, false, 4, api.OK)
	expectApart(t, lots, l[:4], 2, 3, true, -1, api.OK)
	expectApart(t, lots, nil, 2, 3, true, -1, api.OK)
	// Heaps of one hold, one above the other, are apart, until they are mixed.
	mats := []api.Deed{lay(1, 0, 5), lay(2, 0, 5), lay(3, 0, 5)}
	expectApart(t, lots, mats, 1, 2, true, -1, api.OK)
	expectApart(t, lots, append(mats, mix(0)), 2, 3, false, 3, api.OK)
	expectApart(t, lots, append(mats, mix(0)), 1, 3, true, -1, api.OK)
	expectApart(t, lots, append(mats, mix(0), mix(0)), 1, 3, false, 4, api.OK)
	expectApart(t, lots, append(mats, shift(0, 1, 10)), 2, 3, false, 3, api.OK)
	expectApart(t, lots, append(mats, shift(0, 1, 5), shift(0, 2, 5), shift(0, 3, 5)), 2, 3, true, -1, api.OK)
	expectApart(t, lots, append(mats, lose(0, 10), draw(0, 4)), 2, 3, true, -1, api.OK)
	// They stay met when all of one is gone, and when all is gone.
	expectApart(t, lots, []api.Deed{pour(1, 0, 1), pour(2, 0, 99), lose(0, 50), lose(0, 50), pour(3, 0, 1)}, 1, 2, false, 1, api.OK)
	expectApart(t, lots, []api.Deed{pour(1, 0, 1), pour(2, 0, 99), lose(0, 50), lose(0, 50), pour(3, 0, 1)}, 1, 3, true, -1, api.OK)
	// A heap may have a lot of which it has no part.
	expectApart(t, lots, []api.Deed{pour(1, 0, 1), pour(2, 0, 99), shift(0, 1, 10), pour(3, 1, 5)}, 1, 3, false, 3, api.OK)
	expectApart(t, lots, []api.Deed{pour(1, 0, 1), pour(2, 0, 99), draw(0, 50), pour(3, 0, 5)}, 1, 3, false, 3, api.OK)
	// What is drawn or lost is in no heap any more.
	expectApart(t, lots, []api.Deed{lay(1, 0, 5), lay(2, 0, 5), draw(0, 8)}, 1, 2, true, -1, api.OK)
	expectApart(t, lots, []api.Deed{lay(1, 0, 5), lay(2, 0, 5), lose(0, 8)}, 1, 2, true, -1, api.OK)
}

func TestErrorsOfTraces(t *testing.T) {
	lots, l := exampleLots(), exampleDeeds()
	for _, x := range []struct {
		lots  []api.Lot
		deeds []api.Deed
		lot   int
		e     api.Errno
	}{
		{manyLots(41), make([]api.Deed, 61), 0, api.ErrLot}, {lots, make([]api.Deed, 61), 0, api.ErrLong}, {lots, append(l, mix(0)), 0, api.ErrNone}, {lots, append(l, mix(0)), 1, api.ErrNone}, {lots, append(l, draw(8, 1)), 9, api.ErrLess},
		{lots, l, 0, api.ErrLot}, {lots, l, 4, api.ErrLot}, {lots, l, -1, api.ErrLot}, {lots, l, math.MaxInt, api.ErrLot}, {lots, l, math.MinInt, api.ErrLot}, {nil, nil, 0, api.ErrLot}, {nil, nil, 1, api.ErrLot},
	} {
		expectTrace(t, x.lots, x.deeds, x.lot, nil, x.e)
		expectReach(t, x.lots, x.deeds, x.lot, nil, x.e)
		expectApart(t, x.lots, x.deeds, x.lot, 1, false, 0, x.e)
		expectApart(t, x.lots, x.deeds, x.lot, x.lot, false, 0, map[bool]api.Errno{true: api.ErrArg, false: x.e}[x.e == api.OK])
	}
	for lot := 1; lot <= 3; lot++ {
		expectApart(t, lots, l, lot, lot, false, 0, api.ErrArg)
		expectApart(t, lots, nil, lot, lot, false, 0, api.ErrArg)
	}
}

// TestTracesAgainstOracle: all lots of random histories.
func TestTracesAgainstOracle(t *testing.T) {
	seen := map[bool]int{}
	without := 0
	for _, x := range randomHistories(75, 300) {
		w, moves, _ := play(x.lots, x.deeds)
		for _, lot := range x.lots {
			var trails []api.Trail
			for i, m := range moves {
				if m.mass[lot.Id] > 0 {
					trails = append(trails, api.Trail{Deed: i, Mass: m.mass[lot.Id]})
				}
			}
			expectTrace(t, x.lots, x.deeds, lot.Id, trails, api.OK)
			var holds []int
			for hold := range w.holds {
				if w.all(hold).may[lot.Id] {
					holds = append(holds, hold)
					if w.all(hold).mass[lot.Id] == 0 {
						without++
					}
				}
			}
			expectReach(t, x.lots, x.deeds, lot.Id, holds, api.OK)
		}
		for _, a := range x.lots {
			for _, b := range x.lots {
				if a == b {
					continue
				}
				first := firstMeeting(x, a.Id, b.Id)
				expectApart(t, x.lots, x.deeds, a.Id, b.Id, first < 0, first, api.OK)
				seen[first < 0]++
			}
		}
	}
	if seen[true] < 100 || seen[false] < 100 || without < 10 {
		t.Error("too few cases:", seen, without)
	}
}

// firstMeeting is the index of the first deed behind which a heap may have both lots; -1 if there is none.
func firstMeeting(x history, a, b int) int {
	for i := range x.deeds {
		w, _, _ := play(x.lots, x.deeds[:i+1])
		for _, piles := range w.holds {
			for _, p := range piles {
				if p.may[a] && p.may[b] {
					return i
				}
			}
		}
	}
	return -1
}
