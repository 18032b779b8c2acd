package parcel_test

import (
	"math/rand"
	"slices"
	"testing"

	"ullage/api"
	"ullage/parcel"
)

// TestNothingIsGainedOrLost is P6.2.
func TestNothingIsGainedOrLost(t *testing.T) {
	for _, x := range randomHistories(78, 300) {
		accounts, e := parcel.Accounts(x.lots, x.deeds)
		s, _, _ := parcel.Play(x.lots, x.deeds)
		if e != api.OK || len(accounts) != len(x.lots) {
			t.Fatal(accounts, e)
		}
		left := 0
		for _, a := range accounts {
			if a.Poured != a.Drawn+a.Lost+a.Left || min(a.Poured, a.Drawn, a.Lost, a.Left) < 0 {
				t.Error(x, a)
			}
			left += a.Left
			told := api.Account{Lot: a.Lot, Left: a.Left}
			trails, _ := parcel.Trace(x.lots, x.deeds, a.Lot)
			for _, trail := range trails {
				switch x.deeds[trail.Deed].Kind {
				case api.DeedPour, api.DeedLay:
					told.Poured += trail.Mass
				case api.DeedDraw:
					told.Drawn += trail.Mass
				case api.DeedLose:
					told.Lost += trail.Mass
				}
			}
			if told != a {
				t.Error(x, a, told)
			}
		}
		held := 0
		for hold := range api.MaxHolds {
			m, _ := parcel.Held(s, hold)
			held += m
		}
		if held != left {
			t.Error(x, held, left)
		}
	}
}

// TestFair is P6.3.
func TestFair(t *testing.T) {
	r := rand.New(rand.NewSource(79))
	for range 3000 {
		h := randomHeap(r)
		sum := parcel.Mass(h)
		mass := r.Intn(sum + 1)
		taken, left, e := parcel.Split(h, mass)
		both, f := parcel.Join(taken, left)
		if e != api.OK || f != api.OK || !sameHeap(both, h) || parcel.Mass(taken) != mass || parcel.Mass(left) != sum-mass {
			t.Fatal(h, mass, taken, left, e, f)
		}
		got := pileOfHeap(taken).mass
		for i, p := range h.Parts {
			down := mass * p.Mass / sum
			up := (mass*p.Mass + sum - 1) / sum
			if m := got[p.Lot]; m < down || m > up {
				t.Error(h, mass, taken, p)
			}
			for _, later := range h.Parts[i+1:] {
				if later.Mass == p.Mass && got[later.Lot] > got[p.Lot] {
					t.Error(h, mass, taken, p, later)
				}
			}
		}
	}
}

// TestApartAndReach is P6.4.
func TestApartAndReach(t *testing.T) {
	for _, x := range randomHistories(80, 200) {
		reach := map[int][]int{}
		for _, lot := range x.lots {
			reach[lot.Id], _ = parcel.Reach(x.lots, x.deeds, lot.Id)
		}
		s, _, _ := parcel.Play(x.lots, x.deeds)
		for hold, heaps := range s.Holds {
			for _, h := range heaps {
				for _, p := range h.Parts {
					if !slices.Contains(reach[p.Lot], hold) {
						t.Error(x, hold, p, reach)
					}
				}
			}
		}
		for n := range len(x.deeds) + 1 {
			s, _, _ := parcel.Play(x.lots, x.deeds[:n])
			for _, heaps := range s.Holds {
				for _, h := range heaps {
					for i := range max(0, len(h.Parts)-1) {
						is, at, e := parcel.Apart(x.lots, x.deeds, h.Parts[i].Lot, h.Parts[i+1].Lot)
						if is || at >= n || e != api.OK {
							t.Error(x, n, h, is, at, e)
						}
					}
				}
			}
		}
	}
}

// TestJoinsInAnyOrder is the first part of P6.5.
func TestJoinsInAnyOrder(t *testing.T) {
	r := rand.New(rand.NewSource(81))
	for range 2000 {
		a, b, c := randomHeap(r), randomHeap(r), randomHeap(r)
		ab, e1 := parcel.Join(a, b)
		ba, e2 := parcel.Join(b, a)
		if e1 != e2 || !sameHeap(ab, ba) {
			t.Error(a, b, ab, ba)
		}
		bc, e2 := parcel.Join(b, c)
		if e1 != api.OK || e2 != api.OK {
			continue
		}
		first, e1 := parcel.Join(ab, c)
		second, e2 := parcel.Join(a, bc)
		if e1 != e2 || !sameHeap(first, second) {
			t.Error(a, b, c, first, second)
		}
	}
}

// holdsOf are the holds that a deed uses.
func holdsOf(d api.Deed) []int {
	switch d.Kind {
	case api.DeedPour, api.DeedLay:
		return []int{d.To}
	case api.DeedShift:
		return []int{d.From, d.To}
	}
	return []int{d.From}
}

// TestDeedsOfOtherHoldsCommute is the second part of P6.5.
func TestDeedsOfOtherHoldsCommute(t *testing.T) {
	seen := 0
	for _, x := range randomHistories(82, 200) {
		for i := range max(0, len(x.deeds)-1) {
			common := slices.ContainsFunc(holdsOf(x.deeds[i]), func(hold int) bool { return slices.Contains(holdsOf(x.deeds[i+1]), hold) })
			if common {
				continue
			}
			seen++
			if is, e := parcel.Commute(x.lots, x.deeds, i); !is || e != api.OK {
				t.Error(x, i, is, e)
			}
		}
	}
	if seen < 200 {
		t.Error("too few cases:", seen)
	}
}

// TestFreeIsAnOwners is the last part of P6.5.
func TestFreeIsAnOwners(t *testing.T) {
	seen := 0
	for _, s := range append(randomStocks(83, 300), ownersStock(), fullStock()) {
		for owner := 1; owner <= 3; owner++ {
			free, _ := parcel.Free(s, owner)
			for hold, m := range free {
				if m == 0 {
					continue
				}
				seen++
				_, moved, e := parcel.Do(s, draw(hold, m))
				if e != api.OK || parcel.Mass(moved) != m {
					t.Error(s, hold, moved, e)
				}
				for _, p := range moved.Parts {
					if i := slices.IndexFunc(s.Lots, func(x api.Lot) bool { return x.Id == p.Lot }); s.Lots[i].Owner != owner {
						t.Error(s, hold, moved)
					}
				}
			}
		}
	}
	if seen < 200 {
		t.Error("too few cases:", seen)
	}
}
