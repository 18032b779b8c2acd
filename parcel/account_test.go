package parcel_test

import (
	"math"
	"math/big"
	"slices"
	"testing"

	"ullage/api"
	"ullage/parcel"
)

func TestAccounts(t *testing.T) {
	for _, x := range []struct {
		deeds []api.Deed
		want  []api.Account
	}{
		{exampleDeeds(), []api.Account{{Lot: 1, Poured: 60, Drawn: 30, Left: 30}, {Lot: 2, Poured: 40, Drawn: 20, Left: 20}, {Lot: 3, Poured: 10, Left: 10}}},
		{nil, []api.Account{{Lot: 1}, {Lot: 2}, {Lot: 3}}},
		{[]api.Deed{pour(2, 3, 7), lay(2, 4, 5), lay(2, 3, 1), lose(3, 3), draw(4, 2), shift(3, 5, 2)}, []api.Account{{Lot: 1}, {Lot: 2, Poured: 13, Drawn: 2, Lost: 3, Left: 8}, {Lot: 3}}},
		// more than a hold may have, one after the other
		{slices.Repeat([]api.Deed{pour(1, 0, api.MaxMass), draw(0, api.MaxMass), lay(3, 1, api.MaxMass), lose(1, api.MaxMass)}, 15), []api.Account{{Lot: 1, Poured: 15 * api.MaxMass, Drawn: 15 * api.MaxMass}, {Lot: 2}, {Lot: 3, Poured: 15 * api.MaxMass, Lost: 15 * api.MaxMass}}},
	} {
		a, e := parcel.Accounts(exampleLots(), x.deeds)
		if !slices.Equal(a, x.want) || e != api.OK {
			t.Error(x.deeds, a, e)
		}
	}
	if a, e := parcel.Accounts(nil, nil); len(a) > 0 || e != api.OK {
		t.Error(a, e)
	}
	if a, e := parcel.Accounts(exampleLots(), append(exampleDeeds(), mix(4))); len(a) > 0 || e != api.ErrNone {
		t.Error(a, e)
	}
}

func TestAccountsAgainstOracle(t *testing.T) {
	for _, x := range randomHistories(73, 300) {
		w, moves, _ := play(x.lots, x.deeds)
		var want []api.Account
		for _, lot := range x.lots {
			a := api.Account{Lot: lot.Id}
			for i, m := range moves {
				sums := map[int]*int{api.DeedPour: &a.Poured, api.DeedLay: &a.Poured, api.DeedDraw: &a.Drawn, api.DeedLose: &a.Lost}
				if sum := sums[x.deeds[i].Kind]; sum != nil {
					*sum += m.mass[lot.Id]
				}
			}
			for hold := range w.holds {
				a.Left += w.all(hold).mass[lot.Id]
			}
			want = append(want, a)
		}
		if a, e := parcel.Accounts(x.lots, x.deeds); !slices.Equal(a, want) || e != api.OK {
			t.Error(x, a, e, want)
		}
	}
}

// ownersStock has heaps of the owners 1 (lots 1 and 3) and 2 (lot 2).
func ownersStock() api.Stock {
	s := stock(heap(1, 8), heap(2, 7), heap(3, 6), heap(1, 5, 3, 1))
	s.Holds[1] = []api.Heap{heap(1, 4, 3, 4), heap(3, 2)}
	s.Holds[2] = []api.Heap{heap(2, 9), heap(1, 1, 2, 1)}
	s.Holds[3] = []api.Heap{heap(2, 3), heap(2, 4)}
	s.Holds[7] = []api.Heap{heap(1, 11), heap(2, 5)}
	s.Holds[8] = []api.Heap{heap(1, 2, 2, 2), heap(3, 12)}
	return s
}

func expectNumbers(t *testing.T, what string, l []int, e api.Errno, want []int, f api.Errno) {
	t.Helper()
	if !slices.Equal(l, want) || e != f {
		t.Errorf("%s: %v, %d; expected %v, %d", what, l, e, want, f)
	}
}

func TestOfAndFree(t *testing.T) {
	s := ownersStock()
	none := make([]int, api.MaxHolds)
	for owner, want := range [][2][]int{
		{{20, 10, 1, 0, 0, 0, 0, 11, 14}, {12, 10, 0, 0, 0, 0, 0, 0, 12}},
		{{7, 0, 10, 7, 0, 0, 0, 5, 2}, {0, 0, 0, 7, 0, 0, 0, 5, 0}},
		{none, none},
	} {
		l, e := parcel.Of(s, owner+1)
		expectNumbers(t, "Of", l, e, want[0], api.OK)
		l, e = parcel.Free(s, owner+1)
		expectNumbers(t, "Free", l, e, want[1], api.OK)
	}
	l, e := parcel.Of(s, api.MaxOwners)
	expectNumbers(t, "Of", l, e, none, api.OK)
	l, e = parcel.Free(api.Stock{}, api.MaxOwners)
	expectNumbers(t, "Free", l, e, none, api.OK)
	for _, owner := range []int{0, -1, api.MaxOwners + 1, math.MaxInt, math.MinInt} {
		l, e := parcel.Of(s, owner)
		expectNumbers(t, "Of", l, e, nil, api.ErrArg)
		l, e = parcel.Free(s, owner)
		expectNumbers(t, "Free", l, e, nil, api.ErrArg)
	}
}

func TestExamplesOfAStock(t *testing.T) {
	s, _, _ := parcel.Play(exampleLots(), exampleDeeds())
	l, e := parcel.Of(s, 1)
	expectNumbers(t, "Of", l, e, []int{24, 0, 0, 0, 16, 0, 0, 0, 0}, api.OK)
	l, e = parcel.Free(s, 1)
	expectNumbers(t, "Free", l, e, make([]int, api.MaxHolds), api.OK)
	expectRatio(t, "Share", 3, 10, api.OK)(parcel.Share(s, 4, 1))
	expectRatio(t, "Wet", 1190, 1, api.OK)(parcel.Wet(s, 4))
}

// expectRatio is asked with what a function returns.
func expectRatio(t *testing.T, what string, n, d int, e api.Errno) func(r api.Ratio, f api.Errno) {
	return func(r api.Ratio, f api.Errno) {
		t.Helper()
		if r != (api.Ratio{N: n, D: d}) || f != e {
			t.Errorf("%s: %v, %d; expected %d / %d, %d", what, r, f, n, d, e)
		}
	}
}

func TestShare(t *testing.T) {
	s := ownersStock()
	for _, x := range []struct{ hold, lot, n, d int }{
		{0, 1, 13, 27}, {0, 2, 7, 27}, {0, 3, 7, 27}, {1, 1, 2, 5}, {1, 3, 3, 5}, {1, 2, 0, 1}, {2, 2, 10, 11}, {3, 2, 1, 1}, {7, 1, 11, 16}, {8, 3, 3, 4}, {8, 1, 1, 8},
	} {
		expectRatio(t, "Share", x.n, x.d, api.OK)(parcel.Share(s, x.hold, x.lot))
	}
	expectRatio(t, "Share", 1, api.MaxLots, api.OK)(parcel.Share(greatestStock(), 5, api.MaxLot))
	expectRatio(t, "Share", api.MaxMass-1, api.MaxMass, api.OK)(parcel.Share(stock(heap(1, 1), heap(2, api.MaxMass-1)), 0, 2))
	for _, x := range []struct {
		hold, lot int
		e         api.Errno
	}{{-1, 1, api.ErrArg}, {9, 1, api.ErrArg}, {math.MaxInt, 9, api.ErrArg}, {math.MinInt, 0, api.ErrArg}, {0, 0, api.ErrLot}, {0, 4, api.ErrLot}, {4, 4, api.ErrLot}, {0, -1, api.ErrLot}, {4, 1, api.ErrNone}, {5, 3, api.ErrNone}} {
		expectRatio(t, "Share", 0, 0, x.e)(parcel.Share(s, x.hold, x.lot))
	}
}

func TestWet(t *testing.T) {
	s := ownersStock()
	for hold, want := range map[int][2]int{0: {1300*13 + 1500*7 + 1000*7, 27}, 1: {1120, 1}, 2: {16300, 11}, 3: {1500, 1}, 8: {1100, 1}} {
		expectRatio(t, "Wet", want[0], want[1], api.OK)(parcel.Wet(s, hold))
	}
	expectRatio(t, "Wet", api.MaxWet, 1, api.OK)(parcel.Wet(greatestStock(), 3))
	dry := stock(heap(1, 7))
	dry.Lots[0].Wet = 0
	expectRatio(t, "Wet", 0, 1, api.OK)(parcel.Wet(dry, 0))
	near := stock(heap(1, 1, 2, api.MaxMass-1))
	near.Lots[0].Wet, near.Lots[1].Wet = api.MaxWet-1, api.MaxWet
	expectRatio(t, "Wet", api.MaxMass*api.MaxWet-1, api.MaxMass, api.OK)(parcel.Wet(near, 0))
	for hold, e := range map[int]api.Errno{-1: api.ErrArg, 9: api.ErrArg, math.MinInt: api.ErrArg, math.MaxInt: api.ErrArg, 4: api.ErrNone, 6: api.ErrNone} {
		expectRatio(t, "Wet", 0, 0, e)(parcel.Wet(s, hold))
	}
}

func TestGrades(t *testing.T) {
	s := ownersStock()
	s.Lots[1].Grade = api.MaxGrades
	for hold, want := range map[int][]int{0: {13, 7, 0, 0, 0, 0, 0, 0, 7}, 3: {0, 0, 0, 0, 0, 0, 0, 0, 7}, 4: make([]int, 9), 8: {2, 12, 0, 0, 0, 0, 0, 0, 2}} {
		l, e := parcel.Grades(s, hold)
		expectNumbers(t, "Grades", l, e, want, api.OK)
	}
	l, e := parcel.Grades(stock(heap(1, 5, 2, 6), heap(1, 7)), 0)
	expectNumbers(t, "Grades", l, e, []int{18, 0, 0, 0, 0, 0, 0, 0, 0}, api.OK)
	for _, hold := range []int{-1, 9, math.MaxInt, math.MinInt} {
		l, e := parcel.Grades(s, hold)
		expectNumbers(t, "Grades", l, e, nil, api.ErrArg)
	}
}

func TestPure(t *testing.T) {
	for _, x := range []struct {
		s    api.Stock
		want []int
	}{{ownersStock(), []int{0, 1, 3, 7}}, {api.Stock{}, nil}, {stock(), nil}, {stock(heap(1, 1, 2, 1)), nil}, {stock(heap(1, 1), heap(1, 1, 2, 1), heap(2, 1)), nil}, {stock(heap(1, 1, 3, 1)), []int{0}}, {at(stock(), 8, heap(2, 1)), []int{8}}, {greatestStock(), []int{0, 1, 2, 3, 4, 5, 6, 7, 8}}} {
		l, e := parcel.Pure(x.s)
		expectNumbers(t, "Pure", l, e, x.want, api.OK)
	}
}

// TestStocksAgainstOracle: what is told of random stocks, lot by lot.
func TestStocksAgainstOracle(t *testing.T) {
	for _, s := range randomStocks(74, 300) {
		of, free := map[int][]int{}, map[int][]int{}
		for owner := 1; owner <= api.MaxOwners; owner++ {
			of[owner], free[owner] = make([]int, api.MaxHolds), make([]int, api.MaxHolds)
		}
		var pure []int
		for hold, heaps := range s.Holds {
			all := noPile()
			clean := len(heaps) > 0
			blocked := map[int]bool{}
			grades := make([]int, api.MaxGrades)
			wet := new(big.Rat)
			for i := range heaps {
				h := heaps[len(heaps)-1-i]
				owners := map[int]bool{}
				for _, p := range h.Parts {
					lot := s.Lots[slices.IndexFunc(s.Lots, func(x api.Lot) bool { return x.Id == p.Lot })]
					owners[lot.Owner] = true
					of[lot.Owner][hold] += p.Mass
					grades[lot.Grade-1] += p.Mass
					wet.Add(wet, big.NewRat(int64(p.Mass)*int64(lot.Wet), 1))
				}
				clean = clean && len(owners) == 1
				for owner := range free {
					blocked[owner] = blocked[owner] || len(owners) > 1 || !owners[owner]
					if !blocked[owner] {
						free[owner][hold] += pileOfHeap(h).sum()
					}
				}
				all = all.plus(pileOfHeap(h))
			}
			if clean {
				pure = append(pure, hold)
			}
			l, e := parcel.Grades(s, hold)
			expectNumbers(t, "Grades", l, e, grades, api.OK)
			if len(heaps) == 0 {
				continue
			}
			expectFraction(t, wet.Quo(wet, big.NewRat(int64(all.sum()), 1)))(parcel.Wet(s, hold))
			for _, x := range s.Lots {
				expectFraction(t, big.NewRat(int64(all.mass[x.Id]), int64(all.sum())))(parcel.Share(s, hold, x.Id))
			}
		}
		for owner := range of {
			l, e := parcel.Of(s, owner)
			expectNumbers(t, "Of", l, e, of[owner], api.OK)
			l, e = parcel.Free(s, owner)
			expectNumbers(t, "Free", l, e, free[owner], api.OK)
		}
		l, e := parcel.Pure(s)
		expectNumbers(t, "Pure", l, e, pure, api.OK)
	}
}

// expectFraction is asked with what a function returns. (A big.Rat is in lowest terms.)
func expectFraction(t *testing.T, want *big.Rat) func(r api.Ratio, e api.Errno) {
	return func(r api.Ratio, e api.Errno) {
		t.Helper()
		expectRatio(t, "a ratio", int(want.Num().Int64()), int(want.Denom().Int64()), api.OK)(r, e)
	}
}
