package parcel

import (
	"slices"

	"ullage/api"
)

// isBetween reports whether n is from least to most.
func isBetween(n, least, most int) bool { return least <= n && n <= most }

// CheckLot reports whether a lot is valid.
func CheckLot(l api.Lot) api.Errno {
	if !isBetween(l.Id, 1, api.MaxLot) || !isBetween(l.Owner, 1, api.MaxOwners) || !isBetween(l.Grade, 1, api.MaxGrades) || !isBetween(l.Wet, 0, api.MaxWet) {
		return api.ErrLot
	}
	return api.OK
}

// CheckLots reports whether a list of lots is valid.
func CheckLots(l []api.Lot) api.Errno {
	if len(l) > api.MaxLots {
		return api.ErrLot
	}
	last := 0
	for _, x := range l {
		if CheckLot(x) != api.OK || x.Id <= last {
			return api.ErrLot
		}
		last = x.Id
	}
	return api.OK
}

// isHeap reports whether a heap is valid.
func isHeap(h api.Heap) bool {
	if len(h.Parts) > api.MaxLots {
		return false
	}
	last, sum := 0, 0
	for _, p := range h.Parts {
		if !isBetween(p.Lot, last+1, api.MaxLot) || !isBetween(p.Mass, 1, api.MaxMass-sum) {
			return false
		}
		last = p.Lot
		sum += p.Mass
	}
	return true
}

// isMadeOf reports whether all parts of a heap are parts of these lots.
func isMadeOf(h api.Heap, lots []api.Lot) bool {
	return !slices.ContainsFunc(h.Parts, func(p api.Part) bool { return !hasLot(lots, p.Lot) })
}

// areHeaps reports whether a hold may have these heaps of these lots.
func areHeaps(heaps []api.Heap, lots []api.Lot) bool {
	if len(heaps) > api.MaxHeaps {
		return false
	}
	for _, h := range heaps {
		if !isHeap(h) || len(h.Parts) == 0 || !isMadeOf(h, lots) {
			return false
		}
	}
	return massOfAll(heaps) <= api.MaxMass
}

// Check reports whether a stock is valid.
func Check(s api.Stock) api.Errno {
	if CheckLots(s.Lots) != api.OK {
		return api.ErrStock
	}
	for _, heaps := range s.Holds {
		if !areHeaps(heaps, s.Lots) {
			return api.ErrStock
		}
	}
	return api.OK
}

// isHold reports whether a number is that of a hold.
func isHold(hold int) bool { return isBetween(hold, 0, api.MaxHolds-1) }

// checkHold checks a stock, and the number of a hold.
func checkHold(s api.Stock, hold int) api.Errno {
	if e := Check(s); e != api.OK {
		return e
	}
	if !isHold(hold) {
		return api.ErrArg
	}
	return api.OK
}

// named is a deed with those of its numbers that are used; false if there is no such kind of deed.
func named(d api.Deed) (api.Deed, bool) {
	switch d.Kind {
	case api.DeedPour, api.DeedLay:
		return api.Deed{Kind: d.Kind, Lot: d.Lot, To: d.To, Mass: d.Mass}, true
	case api.DeedDraw, api.DeedLose:
		return api.Deed{Kind: d.Kind, From: d.From, Mass: d.Mass}, true
	case api.DeedShift:
		return api.Deed{Kind: d.Kind, From: d.From, To: d.To, Mass: d.Mass}, true
	case api.DeedMix:
		return api.Deed{Kind: d.Kind, From: d.From}, true
	}
	return api.Deed{}, false
}

// brings reports whether a deed adds grain of a lot to a stock.
func brings(d api.Deed) bool { return d.Kind == api.DeedPour || d.Kind == api.DeedLay }

// isDeed reports whether the numbers of a deed may be as they are, whatever a stock of these lots has.
func isDeed(lots []api.Lot, d api.Deed) bool {
	n, ok := named(d)
	switch {
	case !ok || d != n || !isHold(d.From) || !isHold(d.To):
		return false
	case brings(d) && !hasLot(lots, d.Lot):
		return false
	case d.Kind == api.DeedShift && d.From == d.To:
		return false
	}
	return d.Kind == api.DeedMix || isBetween(d.Mass, 1, api.MaxMass)
}

// hasRoom reports whether the hold To has room for what a deed of a valid form brings there.
func hasRoom(s api.Stock, d api.Deed) bool {
	to := s.Holds[d.To]
	switch d.Kind {
	case api.DeedLay:
		return len(to) < api.MaxHeaps && massOfAll(to)+d.Mass <= api.MaxMass
	case api.DeedPour, api.DeedShift:
		return massOfAll(to)+d.Mass <= api.MaxMass
	}
	return true
}

// checkDeed is CheckDeed for a valid stock.
func checkDeed(s api.Stock, d api.Deed) api.Errno {
	switch {
	case !isDeed(s.Lots, d):
		return api.ErrDeed
	case !brings(d) && d.Mass > massOfAll(s.Holds[d.From]):
		return api.ErrLess
	case d.Kind == api.DeedMix && len(s.Holds[d.From]) < 2:
		return api.ErrNone
	case !hasRoom(s, d):
		return api.ErrLong
	}
	return api.OK
}

// CheckDeed reports whether a deed can be done.
func CheckDeed(s api.Stock, d api.Deed) api.Errno {
	if e := Check(s); e != api.OK {
		return e
	}
	return checkDeed(s, d)
}
