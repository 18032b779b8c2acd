package parcel

import (
	"slices"

	"ullage/api"
)

// Accounts returns an account for each lot.
func Accounts(lots []api.Lot, l []api.Deed) ([]api.Account, api.Errno) {
	poured, drawn, lost, left := tally{}, tally{}, tally{}, tally{}
	p, _, e := run(lots, l, func(i int, p *player) {
		switch l[i].Kind {
		case api.DeedPour, api.DeedLay:
			poured.add(p.moved)
		case api.DeedDraw:
			drawn.add(p.moved)
		case api.DeedLose:
			lost.add(p.moved)
		}
	})
	if e != api.OK {
		return nil, e
	}
	for _, heaps := range p.Holds {
		for _, h := range heaps {
			left.add(h)
		}
	}
	var accounts []api.Account
	for _, x := range lots {
		accounts = append(accounts, api.Account{Lot: x.Id, Poured: poured[x.Id], Drawn: drawn[x.Id], Lost: lost[x.Id], Left: left[x.Id]})
	}
	return accounts, api.OK
}

// ownersOf has the owners of lots, by the ids of the lots.
func ownersOf(lots []api.Lot) map[int]int {
	owners := map[int]int{}
	for _, x := range lots {
		owners[x.Id] = x.Owner
	}
	return owners
}

// belongsTo reports whether all parts of a heap are an owner's.
func belongsTo(h api.Heap, owner int, owners map[int]int) bool {
	return !slices.ContainsFunc(h.Parts, func(p api.Part) bool { return owners[p.Lot] != owner })
}

// checkOwner checks a stock, and the number of an owner.
func checkOwner(s api.Stock, owner int) api.Errno {
	if e := Check(s); e != api.OK {
		return e
	}
	if !isBetween(owner, 1, api.MaxOwners) {
		return api.ErrArg
	}
	return api.OK
}

// Of returns what an owner has in each hold.
func Of(s api.Stock, owner int) ([]int, api.Errno) {
	if e := checkOwner(s, owner); e != api.OK {
		return nil, e
	}
	sums := make([]int, api.MaxHolds)
	for hold, heaps := range s.Holds {
		content := contentOf(heaps)
		for _, x := range s.Lots {
			if x.Owner == owner {
				sums[hold] += content[x.Id]
			}
		}
	}
	return sums, api.OK
}

// Free returns what an owner can draw from each hold without anyone else's grain.
func Free(s api.Stock, owner int) ([]int, api.Errno) {
	if e := checkOwner(s, owner); e != api.OK {
		return nil, e
	}
	owners := ownersOf(s.Lots)
	sums := make([]int, api.MaxHolds)
	for hold, heaps := range s.Holds {
		for _, h := range slices.Backward(heaps) {
			if !belongsTo(h, owner, owners) {
				break
			}
			sums[hold] += massOf(h)
		}
	}
	return sums, api.OK
}

// divisor is the greatest common divisor of a number and one above 0.
func divisor(n, d int) int {
	for n != 0 {
		n, d = d%n, n
	}
	return d
}

// ratioOf is n / d in lowest terms; d is above 0.
func ratioOf(n, d int) api.Ratio {
	c := divisor(n, d)
	return api.Ratio{N: n / c, D: d / c}
}

// Share returns what a lot is of a hold's content.
func Share(s api.Stock, hold, lot int) (api.Ratio, api.Errno) {
	if e := checkHold(s, hold); e != api.OK {
		return api.Ratio{}, e
	}
	if !hasLot(s.Lots, lot) {
		return api.Ratio{}, api.ErrLot
	}
	heaps := s.Holds[hold]
	if len(heaps) == 0 {
		return api.Ratio{}, api.ErrNone
	}
	return ratioOf(contentOf(heaps)[lot], massOfAll(heaps)), api.OK
}

// Wet returns the mean moisture of a hold's content.
func Wet(s api.Stock, hold int) (api.Ratio, api.Errno) {
	if e := checkHold(s, hold); e != api.OK {
		return api.Ratio{}, e
	}
	heaps := s.Holds[hold]
	if len(heaps) == 0 {
		return api.Ratio{}, api.ErrNone
	}
	content := contentOf(heaps)
	sum := 0
	for _, x := range s.Lots {
		sum += content[x.Id] * x.Wet
	}
	return ratioOf(sum, massOfAll(heaps)), api.OK
}

// Grades returns the masses of each grade in a hold.
func Grades(s api.Stock, hold int) ([]int, api.Errno) {
	if e := checkHold(s, hold); e != api.OK {
		return nil, e
	}
	content := contentOf(s.Holds[hold])
	sums := make([]int, api.MaxGrades)
	for _, x := range s.Lots {
		sums[x.Grade-1] += content[x.Id]
	}
	return sums, api.OK
}

// arePure reports whether each heap is of one owner alone.
func arePure(heaps []api.Heap, owners map[int]int) bool {
	for _, h := range heaps {
		if !belongsTo(h, owners[h.Parts[0].Lot], owners) {
			return false
		}
	}
	return true
}

// Pure returns the holds in which each heap is of one owner.
func Pure(s api.Stock) ([]int, api.Errno) {
	if e := Check(s); e != api.OK {
		return nil, e
	}
	owners := ownersOf(s.Lots)
	var holds []int
	for hold, heaps := range s.Holds {
		if len(heaps) > 0 && arePure(heaps, owners) {
			holds = append(holds, hold)
		}
	}
	return holds, api.OK
}
