package parcel

import (
	"cmp"
	"slices"

	"ullage/api"
)

// massOf is the mass of a valid heap.
func massOf(h api.Heap) int {
	sum := 0
	for _, p := range h.Parts {
		sum += p.Mass
	}
	return sum
}

// massOfAll is the mass of valid heaps.
func massOfAll(heaps []api.Heap) int {
	sum := 0
	for _, h := range heaps {
		sum += massOf(h)
	}
	return sum
}

// Mass is the mass of a heap.
func Mass(h api.Heap) int {
	if !isHeap(h) {
		return 0
	}
	return massOf(h)
}

// Held is the mass in a hold.
func Held(s api.Stock, hold int) (int, api.Errno) {
	if e := checkHold(s, hold); e != api.OK {
		return 0, e
	}
	return massOfAll(s.Holds[hold]), api.OK
}

// deal deals a mass to numbers, in proportion. Their sum is at least the mass, and at least 1.
func deal(mass int, numbers []int) []int {
	sum := 0
	for _, n := range numbers {
		sum += n
	}
	dealt, remainders, order := make([]int, len(numbers)), make([]int, len(numbers)), make([]int, len(numbers))
	left := mass
	for i, n := range numbers {
		dealt[i], remainders[i], order[i] = mass*n/sum, mass*n%sum, i
		left -= dealt[i]
	}
	slices.SortStableFunc(order, func(i, j int) int { return cmp.Compare(remainders[j], remainders[i]) })
	for _, i := range order[:left] {
		dealt[i]++
	}
	return dealt
}

// with is a heap with a part behind its others, unless the part is nothing.
func with(h api.Heap, p api.Part) api.Heap {
	if p.Mass > 0 {
		h.Parts = append(h.Parts, p)
	}
	return h
}

// split takes a mass from a heap, which is valid and has as much.
func split(h api.Heap, mass int) (taken, left api.Heap) {
	if mass == 0 {
		return api.Heap{}, copyOfHeap(h)
	}
	var masses []int
	for _, p := range h.Parts {
		masses = append(masses, p.Mass)
	}
	for i, m := range deal(mass, masses) {
		p := h.Parts[i]
		taken = with(taken, api.Part{Lot: p.Lot, Mass: m})
		left = with(left, api.Part{Lot: p.Lot, Mass: p.Mass - m})
	}
	return taken, left
}

// Split takes a mass from a heap, and returns what is taken and what is left.
func Split(h api.Heap, mass int) (taken, left api.Heap, e api.Errno) {
	switch {
	case !isHeap(h):
		return api.Heap{}, api.Heap{}, api.ErrStock
	case mass < 0:
		return api.Heap{}, api.Heap{}, api.ErrArg
	case mass > massOf(h):
		return api.Heap{}, api.Heap{}, api.ErrLess
	}
	taken, left = split(h, mass)
	return taken, left, api.OK
}

// join commingles two valid heaps; the result need not be valid.
func join(a, b api.Heap) api.Heap {
	all := slices.Concat(a.Parts, b.Parts)
	slices.SortFunc(all, func(p, q api.Part) int { return cmp.Compare(p.Lot, q.Lot) })
	var parts []api.Part
	for _, p := range all {
		if last := len(parts) - 1; last >= 0 && parts[last].Lot == p.Lot {
			parts[last].Mass += p.Mass
		} else {
			parts = append(parts, p)
		}
	}
	return api.Heap{Parts: parts}
}

// Join commingles two heaps.
func Join(a, b api.Heap) (api.Heap, api.Errno) {
	if !isHeap(a) || !isHeap(b) {
		return api.Heap{}, api.ErrStock
	}
	h := join(a, b)
	if !isHeap(h) {
		return api.Heap{}, api.ErrLong
	}
	return h, api.OK
}
