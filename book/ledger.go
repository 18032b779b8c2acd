package book

import (
	"cmp"
	"slices"

	"ullage/api"
	"ullage/fix"
)

// isLater reports whether x is later than y.
func isLater(x, y api.Entry) bool {
	return cmp.Or(cmp.Compare(x.Time, y.Time), compareEntries(x, y)) > 0
}

// latest returns the latest entry of those that suit; false if none does.
func latest(b api.Book, suits func(x api.Entry) bool) (api.Entry, bool) {
	var last api.Entry
	found := false
	for _, x := range b.Entries {
		if suits(x) && (!found || isLater(x, last)) {
			last, found = x, true
		}
	}
	return last, found
}

// corrects reports whether x corrects y, if both are entries of one book.
func corrects(x, y api.Entry) bool {
	return x.Kind == api.FigCorrect && x.Of == y.At && (isOriginal(y.Kind) || y.Kind == api.FigCorrect) && x.At.Party == y.At.Party && isLater(x, y)
}

// heirOf is the heir of an original. There is one, because each step goes to a later entry.
func heirOf(b api.Book, x api.Entry) api.Entry {
	next, ok := latest(b, func(y api.Entry) bool { return corrects(y, x) })
	for ok {
		x = next
		next, ok = latest(b, func(y api.Entry) bool { return corrects(y, x) })
	}
	return x
}

// heirAt returns the heir of the original at a place; ErrNone if a valid book has none there.
func heirAt(b api.Book, at api.Place) (api.Entry, api.Errno) {
	x, ok := find(b, at)
	if !ok || !isOriginal(x.Kind) {
		return api.Entry{}, api.ErrNone
	}
	return heirOf(b, x), api.OK
}

// Heir is the place of the entry whose value counts.
func Heir(b api.Book, at api.Place) (api.Place, api.Errno) {
	if e := CheckBook(b); e != api.OK {
		return api.Place{}, e
	}
	x, e := heirAt(b, at)
	return x.At, e
}

// Ledger returns the figures of a book.
func Ledger(b api.Book) ([]api.Figure, api.Errno) {
	if e := CheckBook(b); e != api.OK {
		return nil, e
	}
	var l []api.Figure
	for _, x := range b.Entries {
		if isOriginal(x.Kind) {
			heir := heirOf(b, x)
			l = append(l, api.Figure{Kind: x.Kind, Lot: x.Lot, At: x.At, Heir: heir.At, Value: heir.Value})
		}
	}
	return l, api.OK
}

// masses are the figures that tell the mass of a lot, in order.
func masses(b api.Book) ([]api.Figure, api.Errno) {
	l, e := Ledger(b)
	return slices.DeleteFunc(l, func(f api.Figure) bool { return f.Kind == api.FigLoss }), e
}

// Agreed is what all figures of a lot allow.
func Agreed(b api.Book, lot int) (api.Range, api.Errno) {
	l, e := masses(b)
	if e != api.OK {
		return api.Range{}, e
	}
	l = slices.DeleteFunc(l, func(f api.Figure) bool { return f.Lot != lot })
	if len(l) == 0 {
		return api.Range{}, api.ErrNone
	}
	all := l[0].Value
	for _, f := range l {
		all, e = fix.Meet(all, f.Value)
		if e != api.OK {
			return api.Range{}, api.ErrDispute
		}
	}
	return all, api.OK
}

// areApart reports whether two ranges have no number in common.
func areApart(a, b api.Range) bool { return fix.Before(a, b) || fix.Before(b, a) }

// Disputes returns the figures that do not meet.
func Disputes(b api.Book) ([]api.Dispute, api.Errno) {
	l, e := masses(b)
	if e != api.OK {
		return nil, e
	}
	slices.SortStableFunc(l, func(f, g api.Figure) int { return cmp.Compare(f.Lot, g.Lot) })
	var disputes []api.Dispute
	for i, f := range l {
		for _, g := range l[i+1:] {
			if f.Lot == g.Lot && areApart(f.Value, g.Value) {
				disputes = append(disputes, api.Dispute{Lot: f.Lot, A: f.At, B: g.At})
			}
		}
	}
	return disputes, api.OK
}

// isBound reports whether a party has accepted an entry, and not refused it since.
func isBound(b api.Book, party int, at api.Place) bool {
	last, _ := latest(b, func(x api.Entry) bool {
		return x.At.Party == party && x.Of == at && (x.Kind == api.FigAccept || x.Kind == api.FigRefuse)
	})
	return last.Kind == api.FigAccept
}

// Binds reports whether a party is bound by an entry.
func Binds(b api.Book, party int, at api.Place) (bool, api.Errno) {
	if e := CheckBook(b); e != api.OK {
		return false, e
	}
	if !isParty(party) {
		return false, api.ErrArg
	}
	heir, e := heirAt(b, at)
	if e != api.OK {
		return false, e
	}
	return party == at.Party || isBound(b, party, heir.At), api.OK
}
