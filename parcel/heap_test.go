package parcel_test

import (
	"math"
	"math/rand"
	"testing"

	"ullage/api"
	"ullage/parcel"
)

func expectSplit(t *testing.T, h api.Heap, mass int, taken, left api.Heap) {
	t.Helper()
	a, b, e := parcel.Split(h, mass)
	if !sameHeap(a, taken) || !sameHeap(b, left) || e != api.OK {
		t.Errorf("Split(%v, %d) = %v, %v, %d; expected %v, %v", h, mass, a, b, e, taken, left)
	}
}

func TestSplit(t *testing.T) {
	for _, x := range []struct {
		h     api.Heap
		mass  int
		taken api.Heap
		left  api.Heap
	}{
		{heap(1, 10, 2, 10, 3, 10), 10, heap(1, 4, 2, 3, 3, 3), heap(1, 6, 2, 7, 3, 7)},
		{heap(1, 1, 2, 99), 50, heap(1, 1, 2, 49), heap(2, 50)},
		// nothing, and all
		{heap(), 0, heap(), heap()},
		{heap(1, 10, 7, 2), 0, heap(), heap(1, 10, 7, 2)},
		{heap(1, 10, 7, 2), 12, heap(1, 10, 7, 2), heap()},
		{heap(9999, 1), 1, heap(9999, 1), heap()},
		{heap(5, 3), 2, heap(5, 2), heap(5, 1)},
		// what is left over is given to the greatest remainder, and of equal ones to the first
		{heap(1, 1, 2, 1), 1, heap(1, 1), heap(2, 1)},
		{heap(1, 1, 2, 1, 3, 1, 4, 1), 2, heap(1, 1, 2, 1), heap(3, 1, 4, 1)},
		{heap(1, 3, 2, 7), 1, heap(2, 1), heap(1, 3, 2, 6)},
		{heap(1, 3, 2, 7), 9, heap(1, 3, 2, 6), heap(2, 1)},
		{heap(1, 7, 2, 3, 3, 5), 4, heap(1, 2, 2, 1, 3, 1), heap(1, 5, 2, 2, 3, 4)},
		{heap(1, 5, 2, 5, 3, 10), 2, heap(1, 1, 3, 1), heap(1, 4, 2, 5, 3, 9)},
		{heap(1, 10, 2, 5, 3, 5), 2, heap(1, 1, 2, 1), heap(1, 9, 2, 4, 3, 5)},
		{heap(2, 2, 4, 1, 6, 2, 8, 1), 4, heap(2, 1, 4, 1, 6, 1, 8, 1), heap(2, 1, 6, 1)},
		// great masses
		{heap(1, 1, 2, api.MaxMass-1), api.MaxMass / 2, heap(1, 1, 2, api.MaxMass/2-1), heap(2, api.MaxMass/2)},
		{heap(1, 1, 2, api.MaxMass-1), api.MaxMass/2 - 1, heap(2, api.MaxMass/2-1), heap(1, 1, 2, api.MaxMass/2)},
		{heap(1, api.MaxMass), api.MaxMass - 1, heap(1, api.MaxMass-1), heap(1, 1)},
		{heap(1, 33333333, 2, 33333333, 3, 33333334), 99999999, heap(1, 33333333, 2, 33333333, 3, 33333333), heap(3, 1)},
	} {
		expectSplit(t, x.h, x.mass, x.taken, x.left)
	}
	for _, x := range []struct {
		h    api.Heap
		mass int
		e    api.Errno
	}{
		{heap(), -1, api.ErrArg}, {heap(1, 5), -1, api.ErrArg}, {heap(1, 5), math.MinInt, api.ErrArg},
		{heap(), 1, api.ErrLess}, {heap(1, 5), 6, api.ErrLess}, {heap(1, 5, 2, 5), 11, api.ErrLess}, {heap(1, 5), math.MaxInt, api.ErrLess},
		{heap(1, 0), -1, api.ErrStock}, {heap(1, 0), 1, api.ErrStock}, {heap(2, 1, 1, 1), 3, api.ErrStock},
	} {
		taken, left, e := parcel.Split(x.h, x.mass)
		if len(taken.Parts) > 0 || len(left.Parts) > 0 || e != x.e {
			t.Error(x.h, x.mass, taken, left, e, x.e)
		}
	}
}

// randomHeap has parts that are often equal.
func randomHeap(r *rand.Rand) api.Heap {
	var h api.Heap
	lot := 0
	for range r.Intn(9) {
		lot += 1 + r.Intn(4)
		h.Parts = append(h.Parts, api.Part{Lot: lot, Mass: min(randomMass(r), api.MaxMass/10)})
	}
	return h
}

func pileOfHeap(h api.Heap) pile {
	p := noPile()
	for _, x := range h.Parts {
		p.mass[x.Lot] += x.Mass
	}
	return p
}

func TestSplitAgainstOracle(t *testing.T) {
	r := rand.New(rand.NewSource(65))
	for range 4000 {
		h := randomHeap(r)
		sum := pileOfHeap(h).sum()
		mass := r.Intn(sum + 1)
		taken, left := pileOfHeap(h).less(mass)
		expectSplit(t, h, mass, taken.heap(), left.heap())
	}
	// many equal parts
	for n := 1; n <= api.MaxLots; n++ {
		for _, different := range []int{1, 2, 3} {
			var h api.Heap
			for i := range n {
				h.Parts = append(h.Parts, api.Part{Lot: i + 1, Mass: 1 + i%different})
			}
			for mass := range pileOfHeap(h).sum() + 1 {
				taken, left := pileOfHeap(h).less(mass)
				expectSplit(t, h, mass, taken.heap(), left.heap())
			}
		}
	}
	// all masses of small heaps
	for _, h := range []api.Heap{heap(1, 3, 2, 3, 3, 3), heap(1, 1, 2, 2, 3, 3, 4, 4), heap(1, 4, 2, 2, 3, 1), heap(1, 6, 2, 10, 3, 15)} {
		for mass := range pileOfHeap(h).sum() + 1 {
			taken, left := pileOfHeap(h).less(mass)
			expectSplit(t, h, mass, taken.heap(), left.heap())
		}
	}
}

func TestJoin(t *testing.T) {
	for _, x := range []struct{ a, b, want api.Heap }{
		{heap(1, 5, 3, 1), heap(2, 7, 3, 2), heap(1, 5, 2, 7, 3, 3)},
		{heap(), heap(), heap()},
		{heap(), heap(4, 2), heap(4, 2)},
		{heap(1, 5), heap(1, 6), heap(1, 11)},
		{heap(1, 5, 2, 1), heap(8, 6, 9, 7), heap(1, 5, 2, 1, 8, 6, 9, 7)},
		{heap(1, 5, 9, 1), heap(2, 6, 3, 7, 10, 1), heap(1, 5, 2, 6, 3, 7, 9, 1, 10, 1)},
		{heap(1, api.MaxMass-1), heap(1, 1), heap(1, api.MaxMass)},
		{heap(1, api.MaxMass-1), heap(2, 1), heap(1, api.MaxMass-1, 2, 1)},
	} {
		for _, pair := range [][2]api.Heap{{x.a, x.b}, {x.b, x.a}} {
			h, e := parcel.Join(pair[0], pair[1])
			if !sameHeap(h, x.want) || e != api.OK {
				t.Error(pair, h, e, x.want)
			}
		}
	}
	for _, x := range [][2]api.Heap{{heap(1, api.MaxMass), heap(1, 1)}, {heap(1, api.MaxMass), heap(2, 1)}, {heap(1, api.MaxMass), heap(1, api.MaxMass)}, {heap(1, api.MaxMass/2), heap(2, api.MaxMass/2+1)}} {
		if h, e := parcel.Join(x[0], x[1]); len(h.Parts) > 0 || e != api.ErrLong {
			t.Error(x, h, e)
		}
	}
}

// TestJoinOfManyLots: no heap has more than MaxLots parts.
func TestJoinOfManyLots(t *testing.T) {
	var odd, even, all api.Heap
	for i := range api.MaxLots {
		p := api.Part{Lot: i + 1, Mass: i + 1}
		all.Parts = append(all.Parts, p)
		if i%2 == 0 {
			odd.Parts = append(odd.Parts, p)
		} else {
			even.Parts = append(even.Parts, p)
		}
	}
	if h, e := parcel.Join(even, odd); !sameHeap(h, all) || e != api.OK {
		t.Error(h, e)
	}
	if h, e := parcel.Join(all, heap(7, 1)); len(h.Parts) != api.MaxLots || e != api.OK {
		t.Error(h, e)
	}
	if h, e := parcel.Join(all, heap(api.MaxLots+1, 1)); len(h.Parts) > 0 || e != api.ErrLong {
		t.Error(h, e)
	}
}

func TestMass(t *testing.T) {
	for _, x := range []struct {
		h    api.Heap
		want int
	}{{heap(), 0}, {heap(1, 5), 5}, {heap(1, 5, 3, 1), 6}, {heap(1, 1, 2, api.MaxMass-1), api.MaxMass}, {heap(1, api.MaxMass, 2, 1), 0}, {heap(3, 5, 1, 1), 0}} {
		if m := parcel.Mass(x.h); m != x.want {
			t.Error(x.h, m)
		}
	}
}

func TestHeld(t *testing.T) {
	s := stock(heap(1, 30, 2, 20), heap(3, 7))
	s.Holds[8] = []api.Heap{heap(2, 9)}
	for hold := range api.MaxHolds {
		m, e := parcel.Held(s, hold)
		if m != map[int]int{0: 57, 8: 9}[hold] || e != api.OK {
			t.Error(hold, m, e)
		}
	}
	for _, hold := range []int{-1, api.MaxHolds, math.MaxInt, math.MinInt} {
		if m, e := parcel.Held(s, hold); m != 0 || e != api.ErrArg {
			t.Error(hold, m, e)
		}
	}
}
