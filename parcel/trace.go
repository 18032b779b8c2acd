package parcel

import (
	"slices"

	"ullage/api"
)

// Trace returns the deeds that moved something of a lot.
func Trace(lots []api.Lot, l []api.Deed, lot int) ([]api.Trail, api.Errno) {
	var trails []api.Trail
	_, _, e := run(lots, l, func(i int, p *player) {
		for _, part := range p.moved.Parts {
			if part.Lot == lot {
				trails = append(trails, api.Trail{Deed: i, Mass: part.Mass})
			}
		}
	})
	if e != api.OK {
		return nil, e
	}
	if !hasLot(lots, lot) {
		return nil, api.ErrLot
	}
	return trails, api.OK
}

// Reach returns the holds in which something of a lot may be found.
func Reach(lots []api.Lot, l []api.Deed, lot int) ([]int, api.Errno) {
	p, _, e := run(lots, l, unwatched)
	if e != api.OK {
		return nil, e
	}
	if !hasLot(lots, lot) {
		return nil, api.ErrLot
	}
	var holds []int
	for hold, may := range p.may {
		if slices.ContainsFunc(may, func(set lotSet) bool { return set[lot] }) {
			holds = append(holds, hold)
		}
	}
	return holds, api.OK
}

// mayMeet reports whether a heap of any hold may have both lots.
func (p *player) mayMeet(a, b int) bool {
	for _, may := range p.may {
		if slices.ContainsFunc(may, func(set lotSet) bool { return set[a] && set[b] }) {
			return true
		}
	}
	return false
}

// Apart reports whether two lots were never commingled; otherwise by which deed.
func Apart(lots []api.Lot, l []api.Deed, a, b int) (bool, int, api.Errno) {
	first := -1
	_, _, e := run(lots, l, func(i int, p *player) {
		if first < 0 && p.mayMeet(a, b) {
			first = i
		}
	})
	switch {
	case e != api.OK:
		return false, 0, e
	case !hasLot(lots, a) || !hasLot(lots, b):
		return false, 0, api.ErrLot
	case a == b:
		return false, 0, api.ErrArg
	}
	return first < 0, first, api.OK
}
