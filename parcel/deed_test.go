package parcel_test

import (
	"math"
	"math/rand"
	"slices"
	"testing"

	"ullage/api"
	"ullage/parcel"
)

// at is a stock with these heaps in a hold more.
func at(s api.Stock, hold int, heaps ...api.Heap) api.Stock {
	s.Holds[hold] = heaps
	return s
}

func TestDo(t *testing.T) {
	three := stock(heap(1, 4, 2, 4), heap(3, 3), heap(2, 5))
	for _, x := range []struct {
		s     api.Stock
		d     api.Deed
		want  api.Stock
		moved api.Heap
	}{
		// onto the upmost heap, into an empty hold, of a lot that the heap has
		{three, pour(1, 0, 7), stock(heap(1, 4, 2, 4), heap(3, 3), heap(1, 7, 2, 5)), heap(1, 7)},
		{three, pour(3, 8, 7), at(three, 8, heap(3, 7)), heap(3, 7)},
		{three, pour(2, 0, 7), stock(heap(1, 4, 2, 4), heap(3, 3), heap(2, 12)), heap(2, 7)},
		// as a heap of its own
		{three, lay(2, 0, 7), stock(heap(1, 4, 2, 4), heap(3, 3), heap(2, 5), heap(2, 7)), heap(2, 7)},
		{three, lay(2, 1, 7), at(three, 1, heap(2, 7)), heap(2, 7)},
		// from above: a part of a heap, a whole one, more, all
		{three, draw(0, 2), stock(heap(1, 4, 2, 4), heap(3, 3), heap(2, 3)), heap(2, 2)},
		{three, draw(0, 5), stock(heap(1, 4, 2, 4), heap(3, 3)), heap(2, 5)},
		{three, draw(0, 7), stock(heap(1, 4, 2, 4), heap(3, 1)), heap(2, 5, 3, 2)},
		{three, draw(0, 11), stock(heap(1, 2, 2, 3)), heap(1, 2, 2, 6, 3, 3)},
		{three, draw(0, 16), stock(), heap(1, 4, 2, 9, 3, 3)},
		// into another hold, commingled, and with its upmost heap alone
		{three, shift(0, 3, 7), at(stock(heap(1, 4, 2, 4), heap(3, 1)), 3, heap(2, 5, 3, 2)), heap(2, 5, 3, 2)},
		{at(three, 3, heap(1, 1), heap(2, 1)), shift(0, 3, 11), at(stock(heap(1, 2, 2, 3)), 3, heap(1, 1), heap(1, 2, 2, 7, 3, 3)), heap(1, 2, 2, 6, 3, 3)},
		{at(three, 3, heap(1, 1)), shift(3, 0, 1), stock(heap(1, 4, 2, 4), heap(3, 3), heap(1, 1, 2, 5)), heap(1, 1)},
		{three, shift(0, 1, 16), at(stock(), 1, heap(1, 4, 2, 9, 3, 3)), heap(1, 4, 2, 9, 3, 3)},
		// of all heaps, in proportion: first to the heaps, then in each of them
		{three, lose(0, 8), stock(heap(1, 2, 2, 2), heap(3, 1), heap(2, 3)), heap(1, 2, 2, 4, 3, 2)},
		{three, lose(0, 1), stock(heap(1, 3, 2, 4), heap(3, 3), heap(2, 5)), heap(1, 1)},
		{three, lose(0, 2), stock(heap(1, 3, 2, 4), heap(3, 3), heap(2, 4)), heap(1, 1, 2, 1)},
		{three, lose(0, 16), stock(), heap(1, 4, 2, 9, 3, 3)},
		{stock(heap(1, 1), heap(2, 9), heap(3, 1)), lose(0, 10), stock(heap(2, 1)), heap(1, 1, 2, 8, 3, 1)},
		{stock(heap(1, 1), heap(2, 1)), lose(0, 1), stock(heap(2, 1)), heap(1, 1)},
		// the two upmost heaps
		{three, mix(0), stock(heap(1, 4, 2, 4), heap(2, 5, 3, 3)), heap()},
		{stock(heap(2, 1), heap(2, 3)), mix(0), stock(heap(2, 4)), heap()},
	} {
		s, moved, e := parcel.Do(x.s, x.d)
		if !sameStock(s, x.want) || !sameHeap(moved, x.moved) || e != api.OK {
			t.Errorf("Do(%v, %v) = %v, %v, %d; expected %v, %v", x.s, x.d, s, moved, e, x.want, x.moved)
		}
	}
}

// TestGreatDeeds: masses as great as may be.
func TestGreatDeeds(t *testing.T) {
	s, moved, e := parcel.Do(greatestStock(), draw(4, api.MaxMass-1))
	if e != api.OK || len(s.Holds[4]) != 1 || len(s.Holds[4][0].Parts) != 1 || parcel.Mass(s.Holds[4][0]) != 1 || parcel.Mass(moved) != api.MaxMass-1 || len(moved.Parts) != api.MaxLots {
		t.Error(s.Holds[4], moved, e)
	}
	s, moved, e = parcel.Do(greatestStock(), lose(4, api.MaxMass/2))
	if e != api.OK || len(s.Holds[4]) != api.MaxHeaps || parcel.Mass(s.Holds[4][3]) != 5000000 || parcel.Mass(moved) != api.MaxMass/2 || moved.Parts[7].Mass != 1250000 {
		t.Error(s.Holds[4], moved, e)
	}
	for _, h := range s.Holds[4] {
		if len(h.Parts) != api.MaxLots {
			t.Error(h)
		}
	}
}

// TestDoAgainstOracle: each deed of random histories, and of random stocks.
func TestDoAgainstOracle(t *testing.T) {
	kinds := map[int]int{}
	expect := func(w *world, d api.Deed) {
		s, moved, e := parcel.Do(w.stock(), d)
		before := w.stock()
		want := w.do(d)
		if !sameStock(s, w.stock()) || !sameHeap(moved, want.heap()) && d.Kind != api.DeedMix || e != api.OK || parcel.Check(s) != api.OK {
			t.Errorf("Do(%v, %v) = %v, %v, %d; expected %v, %v", before, d, s, moved, e, w.stock(), want.heap())
		}
		kinds[d.Kind]++
	}
	for _, x := range randomHistories(66, 300) {
		w := &world{lots: x.lots}
		for _, d := range x.deeds {
			expect(w, d)
		}
	}
	r := rand.New(rand.NewSource(67))
	for _, s := range randomStocks(68, 300) {
		if len(s.Lots) == 0 {
			continue
		}
		for range 20 {
			w := &world{lots: s.Lots}
			for hold, heaps := range s.Holds {
				for _, h := range heaps {
					w.holds[hold] = append(w.holds[hold], pileOfHeap(h))
				}
			}
			if d := randomDeed(r, w); w.fault(d) == api.OK {
				expect(w, d)
			}
		}
	}
	for kind := api.DeedPour; kind <= api.DeedMix; kind++ {
		if kinds[kind] < 100 {
			t.Error("too few cases:", kind, kinds[kind])
		}
	}
}

func expectPlay(t *testing.T, lots []api.Lot, l []api.Deed, want api.Stock, n int, e api.Errno) {
	t.Helper()
	s, m, f := parcel.Play(lots, l)
	if !sameStock(s, want) || m != n || f != e {
		t.Errorf("Play(%v, %v) = %v, %d, %d; expected %v, %d, %d", lots, l, s, m, f, want, n, e)
	}
}

func TestPlay(t *testing.T) {
	x := exampleDeeds()
	expectPlay(t, exampleLots(), x[:3], stock(heap(1, 30, 2, 20)), 3, api.OK)
	expectPlay(t, exampleLots(), x, at(stock(heap(1, 24, 2, 16)), 4, heap(1, 6, 2, 4, 3, 10)), 5, api.OK)
	expectPlay(t, exampleLots(), nil, stock(), 0, api.OK)
	expectPlay(t, nil, nil, api.Stock{}, 0, api.OK)
	expectPlay(t, exampleLots(), append(x[:3:3], draw(0, 51)), api.Stock{}, 3, api.ErrLess)
	expectPlay(t, exampleLots(), append(x[:3:3], draw(0, 51), pour(9, 0, 1)), api.Stock{}, 3, api.ErrLess)
	expectPlay(t, exampleLots(), append(x[:1:1], pour(9, 0, 1), draw(0, 61)), api.Stock{}, 1, api.ErrDeed)
	expectPlay(t, exampleLots(), append(x[:5:5], mix(0)), api.Stock{}, 5, api.ErrNone)
	expectPlay(t, exampleLots(), append(x[:5:5], pour(3, 0, api.MaxMass)), api.Stock{}, 5, api.ErrLong)
	expectPlay(t, exampleLots(), []api.Deed{{}}, api.Stock{}, 0, api.ErrDeed)
	expectPlay(t, nil, x, api.Stock{}, 0, api.ErrDeed)
	// as many deeds as may be, and more
	most := slices.Repeat([]api.Deed{pour(1, 7, api.MaxMass), draw(7, api.MaxMass)}, api.MaxDeeds/2)
	expectPlay(t, exampleLots(), most, stock(), api.MaxDeeds, api.OK)
	expectPlay(t, exampleLots(), append(most[:59:59], pour(1, 7, 1)), api.Stock{}, 59, api.ErrLong)
	expectPlay(t, exampleLots(), append(most, pour(1, 7, 1)), api.Stock{}, 0, api.ErrLong)
	expectPlay(t, exampleLots(), make([]api.Deed, api.MaxDeeds), api.Stock{}, 0, api.ErrDeed)
	expectPlay(t, exampleLots(), make([]api.Deed, api.MaxDeeds+1), api.Stock{}, 0, api.ErrLong)
	lots := exampleLots()
	lots[1].Id = 1
	expectPlay(t, lots, make([]api.Deed, api.MaxDeeds+1), api.Stock{}, 0, api.ErrLot)
	expectPlay(t, lots, []api.Deed{pour(1, 0, 1), {}}, api.Stock{}, 0, api.ErrLot)
}

func TestPlayAgainstOracle(t *testing.T) {
	r := rand.New(rand.NewSource(69))
	failed := 0
	for _, x := range randomHistories(70, 300) {
		w, _, _ := play(x.lots, x.deeds)
		expectPlay(t, x.lots, x.deeds, w.stock(), len(x.deeds), api.OK)
		if len(x.deeds) < 2 {
			continue
		}
		// A deed is left out, so that others may be none.
		i := r.Intn(len(x.deeds))
		l := slices.Delete(slices.Clone(x.deeds), i, i+1)
		w, moves, e := play(x.lots, l)
		want := w.stock()
		if e != api.OK {
			want = api.Stock{}
			failed++
		}
		expectPlay(t, x.lots, l, want, len(moves), e)
	}
	if failed < 30 {
		t.Error("too few cases:", failed)
	}
}

func expectWithout(t *testing.T, lots []api.Lot, l []api.Deed, i int, want api.Stock, out []int, e api.Errno) {
	t.Helper()
	s, o, f := parcel.Without(lots, l, i)
	if !sameStock(s, want) || !slices.Equal(o, out) || f != e {
		t.Errorf("Without(%v, %v, %d) = %v, %v, %d; expected %v, %v, %d", lots, l, i, s, o, f, want, out, e)
	}
}

func TestWithout(t *testing.T) {
	lots, x := exampleLots(), exampleDeeds()
	expectWithout(t, lots, x, 0, at(stock(heap(2, 30)), 4, heap(2, 10, 3, 10)), []int{2}, api.OK)
	expectWithout(t, lots, x, 1, at(stock(), 4, heap(1, 10, 3, 10)), nil, api.OK)
	expectWithout(t, lots, x, 2, at(stock(heap(1, 54, 2, 36)), 4, heap(1, 6, 2, 4, 3, 10)), nil, api.OK)
	expectWithout(t, lots, x, 3, at(stock(heap(1, 18, 2, 12)), 4, heap(1, 12, 2, 8)), nil, api.OK)
	expectWithout(t, lots, x, 4, stock(heap(1, 30, 2, 20), heap(3, 10)), nil, api.OK)
	// Deeds that have an error are left out, also if they have one beside the deed too.
	bad := []api.Deed{{}, pour(1, 0, 5), draw(0, 6), mix(0), pour(9, 0, 1), lay(2, 0, 5), mix(0), lose(0, 10), shift(0, 1, 1)}
	expectWithout(t, lots, bad, 1, at(stock(heap(2, 4)), 1, heap(2, 1)), []int{0, 2, 3, 4, 6, 7}, api.OK)
	expectWithout(t, lots, bad, 0, stock(), []int{2, 3, 4, 8}, api.OK)
	expectWithout(t, lots, []api.Deed{{}}, 0, stock(), nil, api.OK)
	expectWithout(t, nil, x, 2, api.Stock{}, []int{0, 1, 3, 4}, api.OK)
	for _, i := range []int{-1, 5, math.MaxInt, math.MinInt} {
		expectWithout(t, lots, x, i, api.Stock{}, nil, api.ErrArg)
	}
	expectWithout(t, lots, nil, 0, api.Stock{}, nil, api.ErrArg)
	many := make([]api.Deed, api.MaxDeeds+1)
	expectWithout(t, lots, many, 0, api.Stock{}, nil, api.ErrLong)
	expectWithout(t, lots, many, -1, api.Stock{}, nil, api.ErrLong)
	expectWithout(t, lots, many[1:], -1, api.Stock{}, nil, api.ErrArg)
	expectWithout(t, manyLots(41), many, -1, api.Stock{}, nil, api.ErrLot)
	if s, out, e := parcel.Without(lots, many[1:], 59); !sameStock(s, stock()) || len(out) != 59 || e != api.OK {
		t.Error(s, out, e)
	}
}

func TestWithoutAgainstOracle(t *testing.T) {
	outs := 0
	for _, x := range randomHistories(71, 150) {
		for i := range x.deeds {
			w := &world{lots: x.lots}
			var out []int
			for k, d := range x.deeds {
				if k != i {
					if w.fault(d) == api.OK {
						w.do(d)
					} else {
						out = append(out, k)
					}
				}
			}
			expectWithout(t, x.lots, x.deeds, i, w.stock(), out, api.OK)
			outs += len(out)
		}
	}
	if outs < 100 {
		t.Error("too few cases:", outs)
	}
}

func expectCommute(t *testing.T, lots []api.Lot, l []api.Deed, i int, want bool, e api.Errno) {
	t.Helper()
	if is, f := parcel.Commute(lots, l, i); is != want || f != e {
		t.Errorf("Commute(%v, %v, %d) = %v, %d; expected %v, %d", lots, l, i, is, f, want, e)
	}
}

func TestCommute(t *testing.T) {
	lots, x := exampleLots(), exampleDeeds()
	for i, want := range []bool{true, false, false, false} {
		expectCommute(t, lots, x, i, want, api.OK)
	}
	// What comes behind the two may have an error, or bring the same stock about.
	expectCommute(t, lots, []api.Deed{pour(1, 0, 5), lay(2, 0, 5), mix(0)}, 0, false, api.OK)
	expectCommute(t, lots, []api.Deed{lay(1, 0, 5), lay(2, 0, 5)}, 0, false, api.OK)
	expectCommute(t, lots, []api.Deed{lay(1, 0, 5), lay(2, 0, 5), mix(0)}, 0, true, api.OK)
	expectCommute(t, lots, []api.Deed{lay(1, 0, 5), lay(1, 0, 5)}, 0, true, api.OK)
	expectCommute(t, lots, []api.Deed{lay(1, 0, 5), lay(2, 0, 5), draw(0, 10)}, 0, true, api.OK)
	expectCommute(t, lots, []api.Deed{pour(1, 0, api.MaxMass), draw(0, api.MaxMass), pour(1, 0, api.MaxMass), draw(0, 1)}, 1, false, api.OK)
	expectCommute(t, lots, []api.Deed{pour(1, 0, 5), draw(0, 5)}, 0, false, api.OK)
	expectCommute(t, lots, []api.Deed{pour(1, 3, 5), pour(1, 4, 5), draw(3, 5)}, 1, true, api.OK)
	for _, i := range []int{-1, 4, 5, -2, math.MaxInt, math.MinInt} {
		expectCommute(t, lots, x, i, false, api.ErrArg)
	}
	expectCommute(t, lots, nil, 0, false, api.ErrArg)
	expectCommute(t, lots, nil, -1, false, api.ErrArg)
	expectCommute(t, lots, x[:1], 0, false, api.ErrArg)
	expectCommute(t, lots, append(x, draw(0, 41)), -1, false, api.ErrLess)
	expectCommute(t, lots, append(x, draw(0, 41)), 0, false, api.ErrLess)
	expectCommute(t, lots, make([]api.Deed, api.MaxDeeds+1), 0, false, api.ErrLong)
	expectCommute(t, manyLots(41), make([]api.Deed, api.MaxDeeds+1), 0, false, api.ErrLot)
}

func TestCommuteAgainstOracle(t *testing.T) {
	seen := map[bool]int{}
	for _, x := range randomHistories(72, 150) {
		w, _, _ := play(x.lots, x.deeds)
		for i := range max(0, len(x.deeds)-1) {
			l := slices.Clone(x.deeds)
			l[i], l[i+1] = l[i+1], l[i]
			v, _, e := play(x.lots, l)
			want := e == api.OK && sameStock(v.stock(), w.stock())
			expectCommute(t, x.lots, x.deeds, i, want, api.OK)
			seen[want]++
		}
	}
	if seen[true] < 50 || seen[false] < 50 {
		t.Error("too few cases:", seen)
	}
}
