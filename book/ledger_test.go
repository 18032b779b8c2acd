package book_test

import (
	"math"
	"slices"
	"testing"

	"ullage/api"
	"ullage/book"
)

func expectHeir(t *testing.T, b api.Book, at, want api.Place, e api.Errno) {
	t.Helper()
	if got, f := book.Heir(b, at); got != want || f != e {
		t.Errorf("Heir of %v at %v: %v %d, want %v %d", b, at, got, f, want, e)
	}
}

func TestHeir(t *testing.T) {
	x, y, z := exampleX(), exampleY(), exampleZ()
	b := of(x, y, z)
	expectHeir(t, b, y.At, z.At, api.OK)
	expectHeir(t, b, x.At, x.At, api.OK)
	expectHeir(t, b, z.At, api.Place{}, api.ErrNone)
	expectHeir(t, b, place(2, 0), api.Place{}, api.ErrNone)
	expectHeir(t, b, place(-1, 0), api.Place{}, api.ErrNone)
	expectHeir(t, b, place(0, math.MaxInt), api.Place{}, api.ErrNone)
	expectHeir(t, of(x, accept(0, 1, 9, x.At)), place(0, 1), api.Place{}, api.ErrNone)
	expectHeir(t, api.Book{}, api.Place{}, api.Place{}, api.ErrNone)
	// A FigLoss is an original too.
	loss := figure(api.FigLoss, 2, 0, 7, 1, 2, 3)
	expectHeir(t, of(loss, correct(2, 1, 0, 0, 3, loss.At)), loss.At, place(2, 1), api.OK)
	for _, b := range invalidBooks() {
		expectHeir(t, b, x.At, api.Place{}, api.ErrBook)
	}
}

func TestHeirByOneCondition(t *testing.T) {
	y := exampleY()
	for _, c := range []struct {
		what string
		x    api.Entry
		is   bool
	}{
		{"a later one", correct(1, 1, 0, 0, 7, y.At), true},
		{"one of the same time and a greater place", correct(1, 1, 0, 0, 6, y.At), true},
		{"an earlier one", correct(1, 1, 0, 0, 5, y.At), false},
		{"one of another party", correct(2, 1, 0, 0, 7, y.At), false},
		{"one of another party of the same time", correct(3, 0, 0, 0, 6, y.At), false},
		{"one of another place of the party", correct(1, 1, 0, 0, 7, place(1, 2)), false},
		{"one of itself", correct(1, 1, 0, 0, 7, place(1, 1)), false},
		{"one of another party's place", correct(1, 1, 0, 0, 7, place(0, 0)), false},
		{"a FigAccept", accept(1, 1, 7, y.At), false},
		{"a FigRefuse", refuse(1, 1, 7, y.At), false},
	} {
		want := y.At
		if c.is {
			want = c.x.At
		}
		b, _ := book.Add(of(y), c.x)
		if got, e := book.Heir(b, y.At); got != want || e != api.OK {
			t.Errorf("Heir with %s: %v %d", c.what, got, e)
		}
	}
	// Of the same time and a lesser place: not later.
	y.At.Seq = 5
	expectHeir(t, of(correct(1, 4, 0, 0, 6, y.At), y), y.At, y.At, api.OK)
	expectHeir(t, of(correct(1, 4, 0, 0, 7, y.At), y), y.At, place(1, 4), api.OK)
}

func TestHeirByChains(t *testing.T) {
	x := scale(1, 0, 7, 1, 1, 5)
	// The latest one of several counts, by its time ahead of its place.
	l := of(x, correct(1, 1, 0, 0, 6, x.At), correct(1, 2, 0, 0, 9, x.At), correct(1, 3, 0, 0, 8, x.At))
	expectHeir(t, l, x.At, place(1, 2), api.OK)
	l = of(x, correct(1, 1, 0, 0, 9, x.At), correct(1, 2, 0, 0, 9, x.At))
	expectHeir(t, l, x.At, place(1, 2), api.OK)
	// A correction of a correction counts, if one comes to it.
	l = of(x, correct(1, 1, 0, 0, 6, x.At), correct(1, 2, 0, 0, 7, place(1, 1)), correct(1, 3, 0, 0, 8, place(1, 2)))
	expectHeir(t, l, x.At, place(1, 3), api.OK)
	l = of(x, correct(1, 1, 0, 0, 6, x.At), correct(1, 2, 0, 0, 99, place(1, 1)), correct(1, 3, 0, 0, 8, x.At))
	expectHeir(t, l, x.At, place(1, 3), api.OK)
	// One that corrects what comes later, or corrects in a ring, does not.
	l = of(x, correct(1, 1, 0, 0, 8, x.At), correct(1, 2, 0, 0, 7, place(1, 1)))
	expectHeir(t, l, x.At, place(1, 1), api.OK)
	l = of(x, correct(1, 1, 0, 0, 8, place(1, 2)), correct(1, 2, 0, 0, 9, place(1, 1)))
	expectHeir(t, l, x.At, x.At, api.OK)
	// A FigAccept is not corrected, nor what corrects it found.
	l = of(x, accept(1, 1, 6, x.At), correct(1, 2, 0, 0, 7, place(1, 1)))
	expectHeir(t, l, x.At, x.At, api.OK)
	// A long chain.
	long := []api.Entry{x}
	for i := 1; i < 60; i++ {
		long = append(long, correct(1, i, i, i, 5, place(1, i-1)))
	}
	expectHeir(t, of(long...), x.At, place(1, 59), api.OK)
	expectHeir(t, of(append(slices.Clone(long[:30]), long[31:]...)...), x.At, place(1, 29), api.OK)
}

func TestLedger(t *testing.T) {
	x, y, z := exampleX(), exampleY(), exampleZ()
	loss := figure(api.FigLoss, 2, 4, 3, 0, 9, 1)
	bill := figure(api.FigBill, 3, 0, 7, 1, 2, 9)
	l, e := book.Ledger(of(x, y, z, accept(1, 2, 9, z.At), loss, bill, refuse(3, 1, 9, x.At)))
	want := []api.Figure{
		{Kind: api.FigScale, Lot: 7, At: x.At, Heir: x.At, Value: x.Value},
		{Kind: api.FigDraft, Lot: 7, At: y.At, Heir: z.At, Value: z.Value},
		{Kind: api.FigLoss, Lot: 3, At: loss.At, Heir: loss.At, Value: loss.Value},
		{Kind: api.FigBill, Lot: 7, At: bill.At, Heir: bill.At, Value: bill.Value},
	}
	if !slices.Equal(l, want) || e != api.OK {
		t.Error(l, e)
	}
	if l, e := book.Ledger(of(z)); len(l) > 0 || e != api.OK {
		t.Error(l, e)
	}
	if l, e := book.Ledger(api.Book{}); len(l) > 0 || e != api.OK {
		t.Error(l, e)
	}
	for _, b := range invalidBooks() {
		if l, e := book.Ledger(b); len(l) > 0 || e != api.ErrBook {
			t.Errorf("Ledger of %v: %v %d", b, l, e)
		}
	}
}

func expectAgreed(t *testing.T, b api.Book, lot int, want api.Range, e api.Errno) {
	t.Helper()
	if got, f := book.Agreed(b, lot); got != want || f != e {
		t.Errorf("Agreed of %v, %d: %v %d, want %v %d", b, lot, got, f, want, e)
	}
}

func TestAgreed(t *testing.T) {
	x, y, z := exampleX(), exampleY(), exampleZ()
	expectAgreed(t, of(x, y, z), 7, span(115, 120), api.OK)
	expectAgreed(t, of(x, y), 7, api.Range{}, api.ErrDispute)
	for _, lot := range []int{8, 0, -1, math.MinInt, math.MaxInt} {
		expectAgreed(t, of(x), lot, api.Range{}, api.ErrNone)
	}
	expectAgreed(t, of(z), 0, api.Range{}, api.ErrNone)
	// What was lost is no mass of the lot.
	loss := figure(api.FigLoss, 2, 0, 7, 0, 9, 1)
	expectAgreed(t, of(loss), 7, api.Range{}, api.ErrNone)
	expectAgreed(t, of(x, loss), 7, x.Value, api.OK)
	// Ranges that have one number, or none, in common.
	expectAgreed(t, of(x, figure(api.FigBill, 2, 0, 7, 120, 130, 1)), 7, span(120, 120), api.OK)
	expectAgreed(t, of(x, figure(api.FigBill, 2, 0, 7, 121, 130, 1)), 7, api.Range{}, api.ErrDispute)
	expectAgreed(t, of(x, figure(api.FigBill, 2, 0, 8, 121, 130, 1)), 8, span(121, 130), api.OK)
	const most = 1000000000000
	expectAgreed(t, of(scale(0, 0, 99999, -most, most, 0)), 99999, span(-most, most), api.OK)
	for _, b := range invalidBooks() {
		expectAgreed(t, b, 7, api.Range{}, api.ErrBook)
		expectAgreed(t, b, -1, api.Range{}, api.ErrBook)
	}
}

func expectDisputes(t *testing.T, b api.Book, e api.Errno, want ...api.Dispute) {
	t.Helper()
	if got, f := book.Disputes(b); !slices.Equal(got, want) || f != e {
		t.Errorf("Disputes of %v: %v %d, want %v %d", b, got, f, want, e)
	}
}

func TestDisputes(t *testing.T) {
	x, y, z := exampleX(), exampleY(), exampleZ()
	expectDisputes(t, api.Book{}, api.OK)
	expectDisputes(t, of(x, y), api.OK, api.Dispute{Lot: 7, A: x.At, B: y.At})
	expectDisputes(t, of(x, y, z), api.OK)
	expectDisputes(t, of(x, y, figure(api.FigLoss, 2, 0, 7, 0, 9, 1)), api.OK, api.Dispute{Lot: 7, A: x.At, B: y.At})
	expectDisputes(t, of(x, figure(api.FigLoss, 2, 0, 7, 0, 9, 1)), api.OK)
	expectDisputes(t, of(x, figure(api.FigBill, 2, 0, 7, 120, 130, 1)), api.OK)
	expectDisputes(t, of(x, figure(api.FigBill, 2, 0, 7, 90, 99, 1)), api.OK, api.Dispute{Lot: 7, A: x.At, B: place(2, 0)})
	expectDisputes(t, of(x, figure(api.FigBill, 2, 0, 8, 90, 99, 1)), api.OK)
	// Places are those of the originals, though the heirs' values count.
	expectDisputes(t, of(x, y, correct(1, 1, 121, 121, 7, y.At)), api.OK, api.Dispute{Lot: 7, A: x.At, B: y.At})
	// Several lots and figures.
	expectDisputes(t, of(
		scale(0, 0, 9, 5, 5, 0), scale(0, 1, 3, 1, 1, 0), scale(1, 0, 3, 2, 2, 0),
		scale(1, 1, 9, 5, 6, 0), scale(2, 0, 3, 1, 3, 0), scale(2, 1, 9, 7, 8, 0), scale(3, 0, 3, 0, 0, 0),
	), api.OK,
		api.Dispute{Lot: 3, A: place(0, 1), B: place(1, 0)}, api.Dispute{Lot: 3, A: place(0, 1), B: place(3, 0)},
		api.Dispute{Lot: 3, A: place(1, 0), B: place(3, 0)}, api.Dispute{Lot: 3, A: place(2, 0), B: place(3, 0)},
		api.Dispute{Lot: 9, A: place(0, 0), B: place(2, 1)}, api.Dispute{Lot: 9, A: place(1, 1), B: place(2, 1)})
	for _, b := range invalidBooks() {
		expectDisputes(t, b, api.ErrBook)
	}
	// As many as there can be.
	var l []api.Entry
	for i := range 60 {
		l = append(l, scale(0, i, 1, i, i, 0))
	}
	if d, e := book.Disputes(of(l...)); len(d) != 60*59/2 || e != api.OK {
		t.Error(len(d), e)
	}
}

func expectBinds(t *testing.T, b api.Book, party int, at api.Place, want bool, e api.Errno) {
	t.Helper()
	if got, f := book.Binds(b, party, at); got != want || f != e {
		t.Errorf("Binds of %v, %d at %v: %v %d, want %v %d", b, party, at, got, f, want, e)
	}
}

func TestBinds(t *testing.T) {
	x, y, z := exampleX(), exampleY(), exampleZ()
	yes := accept(0, 1, 9, y.At)
	expectBinds(t, of(x, yes, y), 0, y.At, true, api.OK)
	expectBinds(t, of(x, yes, y, z), 0, y.At, false, api.OK)
	expectBinds(t, of(x, yes, accept(0, 2, 9, z.At), y, z), 0, y.At, true, api.OK)
	expectBinds(t, of(x, accept(0, 1, 0, z.At), y, z), 0, y.At, true, api.OK)
	// Others, and the party of the place, whatever it refuses.
	expectBinds(t, of(x, yes, y), 2, y.At, false, api.OK)
	expectBinds(t, of(x, yes, y), 1, y.At, true, api.OK)
	expectBinds(t, of(y, refuse(1, 1, 9, y.At)), 1, y.At, true, api.OK)
	expectBinds(t, of(x, y), 0, y.At, false, api.OK)
	// The latest one counts, by its time ahead of its place.
	expectBinds(t, of(accept(0, 1, 8, y.At), refuse(0, 2, 9, y.At), y), 0, y.At, false, api.OK)
	expectBinds(t, of(accept(0, 1, 9, y.At), refuse(0, 2, 8, y.At), y), 0, y.At, true, api.OK)
	expectBinds(t, of(accept(0, 1, 9, y.At), refuse(0, 2, 9, y.At), y), 0, y.At, false, api.OK)
	expectBinds(t, of(refuse(0, 1, 9, y.At), accept(0, 2, 9, y.At), y), 0, y.At, true, api.OK)
	expectBinds(t, of(accept(0, 1, 8, y.At), refuse(0, 2, 9, place(1, 1)), y), 0, y.At, true, api.OK)
	expectBinds(t, of(accept(0, 1, 8, y.At), correct(0, 2, 0, 0, 9, y.At), y), 0, y.At, true, api.OK)
	// Another party's FigAccept does not bind.
	expectBinds(t, of(y, accept(2, 0, 9, y.At)), 0, y.At, false, api.OK)
	expectBinds(t, of(y, accept(2, 0, 9, y.At)), 2, y.At, true, api.OK)
	for _, at := range []api.Place{z.At, yes.At, place(3, 0), place(-1, -1), place(4, 0)} {
		expectBinds(t, of(x, yes, y, z), 0, at, false, api.ErrNone)
	}
	for _, odd := range []int{-1, 4, math.MinInt, math.MaxInt} {
		expectBinds(t, of(x, yes, y, z), odd, y.At, false, api.ErrArg)
		expectBinds(t, of(x, yes, y, z), odd, z.At, false, api.ErrArg)
		expectBinds(t, of(z, y), odd, z.At, false, api.ErrBook)
	}
	for _, b := range invalidBooks() {
		expectBinds(t, b, 0, x.At, false, api.ErrBook)
	}
}
