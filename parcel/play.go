package parcel

import (
	"slices"

	"ullage/api"
)

// Do does a deed, and returns the stock and what was moved.
func Do(s api.Stock, d api.Deed) (api.Stock, api.Heap, api.Errno) {
	if e := Check(s); e != api.OK {
		return api.Stock{}, api.Heap{}, e
	}
	p := playerOf(s)
	if e := p.do(d); e != api.OK {
		return api.Stock{}, api.Heap{}, e
	}
	return p.Stock, p.moved, api.OK
}

// checkPlay checks lots, and the number of deeds.
func checkPlay(lots []api.Lot, l []api.Deed) api.Errno {
	if e := CheckLots(lots); e != api.OK {
		return e
	}
	if len(l) > api.MaxDeeds {
		return api.ErrLong
	}
	return api.OK
}

// run does all deeds, from empty holds on, and calls watch behind each of them. It returns the player behind the last one, or the index of the deed that has an error.
func run(lots []api.Lot, l []api.Deed, watch func(i int, p *player)) (*player, int, api.Errno) {
	if e := checkPlay(lots, l); e != api.OK {
		return nil, 0, e
	}
	p := playerOf(api.Stock{Lots: lots})
	for i, d := range l {
		if e := p.do(d); e != api.OK {
			return nil, i, e
		}
		watch(i, p)
	}
	return p, len(l), api.OK
}

// unwatched is the watch of those who look at the last stock alone.
func unwatched(int, *player) {}

// Play does deeds, one after the other, and returns the stock and how many were done.
func Play(lots []api.Lot, l []api.Deed) (api.Stock, int, api.Errno) {
	p, n, e := run(lots, l, unwatched)
	if e != api.OK {
		return api.Stock{}, n, e
	}
	return p.Stock, n, api.OK
}

// Without plays deeds without one of them, and returns the stock and which others could not be done.
func Without(lots []api.Lot, l []api.Deed, at int) (api.Stock, []int, api.Errno) {
	if e := checkPlay(lots, l); e != api.OK {
		return api.Stock{}, nil, e
	}
	if !isBetween(at, 0, len(l)-1) {
		return api.Stock{}, nil, api.ErrArg
	}
	p := playerOf(api.Stock{Lots: lots})
	var out []int
	for i, d := range l {
		if i != at && p.do(d) != api.OK {
			out = append(out, i)
		}
	}
	return p.Stock, out, api.OK
}

// Commute reports whether a deed and the next one, exchanged, lead to the same stock.
func Commute(lots []api.Lot, l []api.Deed, at int) (bool, api.Errno) {
	p, _, e := run(lots, l, unwatched)
	if e != api.OK {
		return false, e
	}
	if !isBetween(at, 0, len(l)-2) {
		return false, api.ErrArg
	}
	other := slices.Clone(l)
	other[at], other[at+1] = l[at+1], l[at]
	q, _, e := run(lots, other, unwatched)
	return e == api.OK && sameHolds(p.Stock, q.Stock), api.OK
}
