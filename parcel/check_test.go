package parcel_test

import (
	"math"
	"math/rand"
	"slices"
	"testing"

	"ullage/api"
	"ullage/parcel"
)

// badLots are lots of which one number may not be.
func badLots() []api.Lot {
	var l []api.Lot
	for _, x := range []struct {
		field func(x *api.Lot) *int
		bad   []int
	}{
		{func(x *api.Lot) *int { return &x.Id }, []int{0, -1, api.MaxLot + 1, math.MaxInt, math.MinInt}},
		{func(x *api.Lot) *int { return &x.Owner }, []int{0, -1, api.MaxOwners + 1, math.MaxInt, math.MinInt}},
		{func(x *api.Lot) *int { return &x.Grade }, []int{0, -1, api.MaxGrades + 1, math.MaxInt, math.MinInt}},
		{func(x *api.Lot) *int { return &x.Wet }, []int{-1, api.MaxWet + 1, math.MaxInt, math.MinInt}},
	} {
		for _, n := range x.bad {
			lot := api.Lot{Id: 2, Owner: 2, Grade: 2, Wet: 2}
			*x.field(&lot) = n
			l = append(l, lot)
		}
	}
	return append(l, api.Lot{})
}

func TestLots(t *testing.T) {
	for _, x := range []api.Lot{{Id: 1, Owner: 1, Grade: 1}, {Id: api.MaxLot, Owner: api.MaxOwners, Grade: api.MaxGrades, Wet: api.MaxWet}, exampleLots()[0]} {
		if e := parcel.CheckLot(x); e != api.OK {
			t.Error(x, e)
		}
		if e := parcel.CheckLots([]api.Lot{x}); e != api.OK {
			t.Error(x, e)
		}
	}
	for _, x := range badLots() {
		if e := parcel.CheckLot(x); e != api.ErrLot {
			t.Error(x, e)
		}
		if e := parcel.CheckLots([]api.Lot{{Id: 1, Owner: 1, Grade: 1}, x}); e != api.ErrLot {
			t.Error(x, e)
		}
		if e := parcel.CheckLots([]api.Lot{x, {Id: api.MaxLot, Owner: 1, Grade: 1}}); e != api.ErrLot {
			t.Error(x, e)
		}
	}
}

// manyLots has so many lots, with rising ids.
func manyLots(n int) []api.Lot {
	var l []api.Lot
	for i := range n {
		l = append(l, api.Lot{Id: i + 1, Owner: 1 + i%api.MaxOwners, Grade: 1 + i%api.MaxGrades, Wet: i})
	}
	return l
}

func TestListsOfLots(t *testing.T) {
	for _, l := range [][]api.Lot{nil, {}, exampleLots(), manyLots(api.MaxLots), greatestStock().Lots} {
		if e := parcel.CheckLots(l); e != api.OK {
			t.Error(l, e)
		}
	}
	x := exampleLots()
	for _, l := range [][]api.Lot{manyLots(api.MaxLots + 1), manyLots(api.MaxLot), {x[0], x[0]}, {x[1], x[0]}, {x[0], x[2], x[1]}, {x[0], x[1], x[1]}} {
		if e := parcel.CheckLots(l); e != api.ErrLot {
			t.Error(l, e)
		}
	}
}

// goodHeaps are valid heaps, badHeaps are none; all lots are from 1 to MaxLot, as far as that is not what is wrong.
func goodHeaps() []api.Heap {
	most := heap()
	for i := range api.MaxLots {
		most.Parts = append(most.Parts, api.Part{Lot: i + 1, Mass: api.MaxMass / api.MaxLots})
	}
	return []api.Heap{{}, {Parts: []api.Part{}}, heap(1, 1), heap(api.MaxLot, api.MaxMass), heap(1, 1, 2, api.MaxMass-1), heap(1, 5, 7, 2, 9, 5), most}
}

func badHeaps() []api.Heap {
	most := heap()
	for i := range api.MaxLots + 1 {
		most.Parts = append(most.Parts, api.Part{Lot: i + 1, Mass: 1})
	}
	return []api.Heap{
		heap(0, 1), heap(-1, 1), heap(api.MaxLot+1, 1), heap(math.MaxInt, 1), heap(math.MinInt, 1),
		heap(1, 0), heap(1, -1), heap(1, api.MaxMass+1), heap(1, math.MaxInt), heap(1, math.MinInt),
		heap(1, 1, 1, 1), heap(2, 1, 1, 1), heap(1, 1, 3, 1, 2, 1), heap(1, 1, 3, 1, 3, 1), heap(math.MaxInt, 1, math.MinInt, 1),
		heap(1, 1, 2, api.MaxMass), heap(1, api.MaxMass, 2, api.MaxMass), heap(1, 7, 2, math.MaxInt), heap(1, math.MaxInt, 2, math.MaxInt), heap(1, 5, 2, -5), heap(1, -5, 2, 10), heap(1, 5, 2, 0), most,
	}
}

func TestHeaps(t *testing.T) {
	for _, h := range goodHeaps() {
		taken, left, e := parcel.Split(h, 0)
		if len(taken.Parts) > 0 || !sameHeap(left, h) || e != api.OK {
			t.Error(h, taken, left, e)
		}
	}
	for _, h := range badHeaps() {
		if e := parcel.Check(stock(h)); e != api.ErrStock {
			t.Error(h, e)
		}
		if _, _, e := parcel.Split(h, 0); e != api.ErrStock {
			t.Error(h, e)
		}
		if m := parcel.Mass(h); m != 0 {
			t.Error(h, m)
		}
		for _, g := range []api.Heap{{}, heap(1, 1), h} {
			if _, e := parcel.Join(g, h); e != api.ErrStock {
				t.Error(g, h, e)
			}
			if _, e := parcel.Join(h, g); e != api.ErrStock {
				t.Error(h, g, e)
			}
		}
	}
}

func TestStocks(t *testing.T) {
	one := heap(1, 1)
	for _, s := range []api.Stock{{}, {Lots: []api.Lot{}}, stock(), stock([]api.Heap{}...), stock(one), stock(one, one, one, one), stock(heap(1, 1, 2, 2, 3, 3)), stock(heap(3, api.MaxMass)), stock(heap(1, api.MaxMass-1), one), greatestStock()} {
		if e := parcel.Check(s); e != api.OK {
			t.Error(s, e)
		}
	}
	quarter := heap(2, api.MaxMass/4)
	bad := []api.Stock{
		stock(one, one, one, one, one), stock(heap()), stock(one, heap()), stock(heap(), one), stock(heap(4, 1)), stock(one, heap(1, 1, 2, 1, 4, 1)),
		stock(heap(1, api.MaxMass), one), stock(quarter, quarter, quarter, heap(1, 1, 2, api.MaxMass/4)),
	}
	for _, x := range append(badLots(), api.Lot{Id: 3, Owner: 1, Grade: 1}, api.Lot{Id: 2, Owner: 1, Grade: 1}) {
		bad = append(bad, api.Stock{Lots: append(exampleLots(), x)})
	}
	bad = append(bad, api.Stock{Lots: manyLots(api.MaxLots + 1)})
	for _, h := range badHeaps() {
		s := stock(one, h)
		s.Lots = manyLots(api.MaxLots)
		bad = append(bad, s)
	}
	for _, s := range bad {
		for hold := range s.Holds {
			s.Holds[hold], s.Holds[0] = s.Holds[0], s.Holds[hold]
			if e := parcel.Check(s); e != api.ErrStock {
				t.Error(s, e)
			}
			s.Holds[hold], s.Holds[0] = s.Holds[0], s.Holds[hold]
		}
	}
	// Heaps of different holds may have more together.
	s := stock(heap(1, api.MaxMass))
	for hold := range s.Holds {
		s.Holds[hold] = s.Holds[0]
	}
	if e := parcel.Check(s); e != api.OK {
		t.Error(e)
	}
}

// fullStock has a hold with as many heaps as may be, one with as much mass, one with a single heap, and empty ones.
func fullStock() api.Stock {
	s := stock(heap(1, 5), heap(2, 5), heap(1, 2, 3, 3), heap(3, 5))
	s.Holds[1] = []api.Heap{heap(1, api.MaxMass-5), heap(2, 5)}
	s.Holds[2] = []api.Heap{heap(2, 7)}
	return s
}

func TestDeedsThatAreNone(t *testing.T) {
	bad := []api.Deed{{}, {Kind: 7, From: 1}, {Kind: -1}, {Kind: math.MaxInt}, {Kind: math.MinInt}, {Lot: 1, To: 1, Mass: 1}}
	for _, d := range []api.Deed{pour(1, 2, 5), lay(1, 2, 5), draw(2, 5), shift(2, 3, 5), lose(2, 5), mix(1)} {
		if e := parcel.CheckDeed(fullStock(), d); e != api.OK {
			t.Error(d, e)
		}
		for _, x := range []struct {
			field func(d *api.Deed) *int
			right int // where the number is used
			bad   []int
		}{
			{func(d *api.Deed) *int { return &d.Lot }, 1, []int{0, -1, 4, api.MaxLot, math.MaxInt, math.MinInt}},
			{func(d *api.Deed) *int { return &d.From }, 1, []int{-1, api.MaxHolds, math.MaxInt, math.MinInt}},
			{func(d *api.Deed) *int { return &d.To }, 3, []int{-1, api.MaxHolds, math.MaxInt, math.MinInt}},
			{func(d *api.Deed) *int { return &d.Mass }, 1, []int{0, -1, api.MaxMass + 1, math.MaxInt, math.MinInt}},
		} {
			wrong := x.bad
			if *x.field(&d) == 0 {
				wrong = slices.DeleteFunc(append(x.bad, x.right), func(n int) bool { return n == 0 })
			}
			for _, n := range wrong {
				c := d
				*x.field(&c) = n
				bad = append(bad, c)
			}
		}
	}
	bad = append(bad, shift(2, 2, 5), shift(8, 8, 5), shift(0, 0, api.MaxMass), pour(1, 9, 1), pour(4, 0, 1))
	for _, d := range bad {
		for _, s := range []api.Stock{fullStock(), {}, stock()} {
			if e := parcel.CheckDeed(s, d); e != api.ErrDeed {
				t.Error(d, e)
			}
		}
	}
	for _, d := range []api.Deed{pour(1, 0, 1), lay(1, 0, 1)} {
		if e := parcel.CheckDeed(api.Stock{}, d); e != api.ErrDeed {
			t.Error(d, e)
		}
	}
}

func TestCheckDeed(t *testing.T) {
	for _, x := range []struct {
		d api.Deed
		e api.Errno
	}{
		{draw(0, 20), api.OK}, {draw(0, 21), api.ErrLess}, {draw(3, 1), api.ErrLess}, {draw(1, api.MaxMass), api.OK}, {draw(2, api.MaxMass), api.ErrLess},
		{lose(0, 20), api.OK}, {lose(0, 21), api.ErrLess}, {lose(8, 1), api.ErrLess}, {lose(1, api.MaxMass), api.OK},
		{shift(0, 2, 20), api.OK}, {shift(0, 2, 21), api.ErrLess}, {shift(0, 3, 20), api.OK}, {shift(3, 0, 1), api.ErrLess}, {shift(1, 8, api.MaxMass), api.OK},
		{shift(0, 1, 1), api.ErrLong}, {shift(0, 1, 21), api.ErrLess}, {shift(2, 0, 7), api.OK}, {shift(1, 2, api.MaxMass-7), api.OK}, {shift(1, 2, api.MaxMass-6), api.ErrLong},
		{mix(0), api.OK}, {mix(1), api.OK}, {mix(2), api.ErrNone}, {mix(3), api.ErrNone},
		{pour(1, 0, api.MaxMass-20), api.OK}, {pour(1, 0, api.MaxMass-19), api.ErrLong}, {pour(1, 1, 1), api.ErrLong}, {pour(3, 8, api.MaxMass), api.OK}, {pour(2, 2, api.MaxMass), api.ErrLong},
		{lay(1, 0, 1), api.ErrLong}, {lay(1, 0, api.MaxMass), api.ErrLong}, {lay(1, 1, 1), api.ErrLong}, {lay(1, 2, api.MaxMass-7), api.OK}, {lay(1, 2, api.MaxMass-6), api.ErrLong}, {lay(3, 7, api.MaxMass), api.OK},
	} {
		if e := parcel.CheckDeed(fullStock(), x.d); e != x.e {
			t.Error(x.d, e, x.e)
		}
		s, m, e := parcel.Do(fullStock(), x.d)
		if e != x.e {
			t.Error(x.d, e, x.e)
		}
		if e != api.OK && (!sameStock(s, api.Stock{}) || len(m.Parts) > 0) {
			t.Error(x.d, s, m)
		}
	}
}

// TestCheckDeedAgainstOracle: deeds near all limits.
func TestCheckDeedAgainstOracle(t *testing.T) {
	r := rand.New(rand.NewSource(63))
	seen := map[api.Errno]int{}
	for _, x := range randomHistories(64, 150) {
		w, _, e := play(x.lots, x.deeds)
		if e != api.OK {
			t.Fatal(e)
		}
		if len(x.lots) == 0 {
			continue
		}
		s := w.stock()
		for range 60 {
			d := randomDeed(r, w)
			switch r.Intn(12) {
			case 0:
				d.Kind = r.Intn(9) - 1
			case 1:
				d.From = r.Intn(11) - 1
			case 2:
				d.To = r.Intn(11) - 1
			case 3:
				d.Lot = r.Intn(9) - 1
			case 4:
				d.Mass = api.MaxMass - w.all(max(0, min(8, d.To))).sum() + r.Intn(3) - 1
			case 5:
				d.Mass = w.all(max(0, min(8, d.From))).sum() + r.Intn(3) - 1
			}
			want := w.fault(d)
			if e := parcel.CheckDeed(s, d); e != want {
				t.Error(s, d, e, want)
			}
			seen[want]++
		}
	}
	for _, e := range []api.Errno{api.OK, api.ErrDeed, api.ErrLess, api.ErrNone, api.ErrLong} {
		if seen[e] < 20 {
			t.Error("too few cases:", e, seen[e])
		}
	}
}

// TestBadStocks: all functions with a stock tell it ahead of all else.
func TestBadStocks(t *testing.T) {
	s := stock(heap(1, 1), heap())
	if _, e := parcel.Held(s, -1); e != api.ErrStock {
		t.Error(e)
	}
	if e := parcel.CheckDeed(s, api.Deed{}); e != api.ErrStock {
		t.Error(e)
	}
	s.Holds[0] = slices.Repeat([]api.Heap{heap(1, 1)}, 100000)
	if e := parcel.Check(s); e != api.ErrStock {
		t.Error(e)
	}
}
