package book_test

import (
	"math"
	"slices"
	"testing"

	"ullage/api"
	"ullage/book"
)

// invalidBooks are wrong by one thing.
func invalidBooks() []api.Book {
	x, y, z := exampleX(), exampleY(), exampleZ()
	l := []api.Book{
		of(x, x), of(y, x), of(x, z, y), of(x, y, z, x),
		of(x, with(x, func(x *api.Entry) { x.Time++ })),
		of(many(2, 61)...),
		of(append([]api.Entry{x}, many(2, 60)...)...),
		of(scale(0, 9, 1, 0, 0, 0), scale(0, 8, 1, 0, 0, 0)),
		of(scale(2, 0, 1, 0, 0, 0), scale(1, 9, 1, 0, 0, 0)),
	}
	for _, bad := range invalidEntries()[:40] {
		l = append(l, of(bad))
	}
	return append(l, of(x, y, with(z, func(x *api.Entry) { x.Lot = 7 })))
}

func validBooks() []api.Book {
	x, y, z := exampleX(), exampleY(), exampleZ()
	return []api.Book{
		{}, of(x), of(y), of(x, y), of(y, z), of(x, y, z), of(many(3, 60)...), of(many(0, 59)...),
		of(scale(0, 99999, 1, 0, 0, 0), scale(1, 0, 1, 0, 0, 0)),
	}
}

func TestCheckBook(t *testing.T) {
	for _, b := range validBooks() {
		if e := book.CheckBook(b); e != api.OK {
			t.Errorf("CheckBook of %v: %d", b, e)
		}
	}
	for _, b := range invalidBooks() {
		if e := book.CheckBook(b); e != api.ErrBook {
			t.Errorf("CheckBook of %v: %d", b, e)
		}
	}
	// A long list is not gone through.
	if e := book.CheckBook(of(make([]api.Entry, 1000000)...)); e != api.ErrBook {
		t.Error(e)
	}
}

func expectAdd(t *testing.T, b api.Book, x api.Entry, want api.Book, e api.Errno) {
	t.Helper()
	if got, f := book.Add(b, x); !sameBook(got, want) || f != e {
		t.Errorf("Add of %v to %v: %v %d, want %v %d", x, b, got, f, want, e)
	}
}

func TestAdd(t *testing.T) {
	x, y, z := exampleX(), exampleY(), exampleZ()
	other := with(x, func(x *api.Entry) { x.Tag = 1 })
	expectAdd(t, api.Book{}, x, of(x), api.OK)
	expectAdd(t, of(x), y, of(x, y), api.OK)
	expectAdd(t, of(y), x, of(x, y), api.OK)
	expectAdd(t, of(x, z), y, of(x, y, z), api.OK)
	expectAdd(t, of(x, y, z), y, of(x, y, z), api.OK)
	expectAdd(t, of(x, y), other, api.Book{}, api.ErrTwo)
	expectAdd(t, of(x, y), api.Entry{}, api.Book{}, api.ErrEntry)
	full := of(many(2, 60)...)
	expectAdd(t, of(many(2, 59)...), many(2, 60)[59], full, api.OK)
	expectAdd(t, full, x, api.Book{}, api.ErrLong)
	expectAdd(t, full, full.Entries[30], full, api.OK)
	expectAdd(t, full, with(full.Entries[30], func(x *api.Entry) { x.Value.Lo-- }), api.Book{}, api.ErrTwo)
	expectAdd(t, full, api.Entry{}, api.Book{}, api.ErrEntry)
	for _, b := range invalidBooks() {
		expectAdd(t, b, x, api.Book{}, api.ErrBook)
		expectAdd(t, b, api.Entry{}, api.Book{}, api.ErrBook)
	}
}

func expectJoin(t *testing.T, a, b, want api.Book, e api.Errno) {
	t.Helper()
	for _, l := range [][2]api.Book{{a, b}, {b, a}} {
		if got, f := book.Join(l[0], l[1]); !sameBook(got, want) || f != e {
			t.Errorf("Join of %v and %v: %v %d, want %v %d", l[0], l[1], got, f, want, e)
		}
	}
}

func TestJoin(t *testing.T) {
	x, y, z := exampleX(), exampleY(), exampleZ()
	other := with(y, func(x *api.Entry) { x.Lot = 8 })
	expectJoin(t, api.Book{}, api.Book{}, api.Book{}, api.OK)
	expectJoin(t, of(x, z), api.Book{}, of(x, z), api.OK)
	expectJoin(t, of(x, z), of(y), of(x, y, z), api.OK)
	expectJoin(t, of(x, y), of(y, z), of(x, y, z), api.OK)
	expectJoin(t, of(x, y), of(other, z), api.Book{}, api.ErrTwo)
	full := of(many(2, 60)...)
	expectJoin(t, full, full, full, api.OK)
	expectJoin(t, of(full.Entries[:40]...), of(full.Entries[20:]...), full, api.OK)
	expectJoin(t, full, of(x), api.Book{}, api.ErrLong)
	expectJoin(t, of(many(1, 60)...), full, api.Book{}, api.ErrLong)
	unlike := of(slices.Concat(full.Entries[:59], []api.Entry{with(full.Entries[59], func(x *api.Entry) { x.Time++ })})...)
	expectJoin(t, full, unlike, api.Book{}, api.ErrTwo)
	expectJoin(t, of(append([]api.Entry{x}, full.Entries[:59]...)...), of(append([]api.Entry{with(x, func(x *api.Entry) { x.Lot = 8 })}, full.Entries[1:]...)...), api.Book{}, api.ErrTwo)
	for _, b := range invalidBooks() {
		expectJoin(t, b, of(x), api.Book{}, api.ErrBook)
		expectJoin(t, b, b, api.Book{}, api.ErrBook)
	}
}

func TestNext(t *testing.T) {
	b := of(scale(0, 3, 1, 0, 0, 0), scale(0, 7, 1, 0, 0, 0), scale(2, 0, 1, 0, 0, 0), scale(3, 99999, 1, 0, 0, 0))
	for party, want := range []int{8, 0, 1, 100000} {
		if n := book.Next(b, party); n != want {
			t.Errorf("Next of %d: %d, want %d", party, n, want)
		}
		if n := book.Next(api.Book{}, party); n != 0 {
			t.Errorf("Next of %d in an empty book: %d", party, n)
		}
	}
	for _, odd := range []int{-1, 4, math.MinInt, math.MaxInt} {
		if n := book.Next(b, odd); n != -1 {
			t.Errorf("Next of %d: %d", odd, n)
		}
	}
	for _, b := range invalidBooks() {
		if n := book.Next(b, 0); n != -1 {
			t.Errorf("Next in %v: %d", b, n)
		}
	}
}
