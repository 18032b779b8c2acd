package desk_test

import (
	"slices"
	"strconv"
	"testing"

	"ullage/api"
	"ullage/book"
	"ullage/desk"
)

func TestPours(t *testing.T) {
	d := ready(t)
	v := exampleVoyage()
	expect(t, d, "pour 1 3000 3000 1000 1000", "stage 3")
	v.Fills[0] = partly(1, 2699, 2701)
	expectVoyage(t, d, v)
	// What is not safe, or cannot be, changes nothing.
	was := stateOf(d)
	expect(t, d, "pour 2 13000 13000 1000 1000", "unsafe 1 deep")
	expect(t, d, "pair 1 3000 3000 1000 1000 2 5000 5000 1000 1000", "unsafe 1 deep")
	expect(t, d, "pair 2 5000 5000 1000 1000 1 1000 1000 1000 1000", "stage 3")
	v, _ = desk.Behind(v, []api.Pour{pour(2, 5000), pour(1, 1000)})
	expectVoyage(t, d, v)
	if slices.Equal(was.voyage.Fills, v.Fills) {
		t.Error("nothing is poured")
	}
	expectError(t, d, "pour 3 1 1 1000 1000", api.ErrHold)
	expectError(t, d, "pour 1 2 1 1000 1000", api.ErrRange)
	expectError(t, d, "pour 1 -1 1 1000 1000", api.ErrArg)
	expectError(t, d, "pour 1 1 1 99 1000", api.ErrFill)
	expectError(t, d, "pour 1 40000 40000 1000 1000", api.ErrRoom)
	expectError(t, d, "pair 1 1 1 1000 1000 1 1 1 1000 1000", api.ErrArg)
	expectError(t, d, "pair 1 1 1 1000 1000 3 1 1 1000 1000", api.ErrHold)
	expectError(t, desk.New(), "pour 1 3000 3000 1000 1000", api.ErrShip)
	// Judge has an error on the way.
	expect(t, d, `table 1 "0 0 0\n30 30000 30000"`, "ok")
	expectError(t, d, "pour 2 9000 9000 1000 1000", api.ErrNone)
	// With the range of a mass, and that of a density.
	d = ready(t)
	expect(t, d, "pour 1 2000 3000 900 1000", "stage 3")
	v, _ = desk.Behind(exampleVoyage(), []api.Pour{{Hold: 1, Mass: span(2000, 3000), Density: span(900, 1000)}})
	expectVoyage(t, d, v)
	expect(t, d, "day 20", "ok")
	expect(t, d, "pour 1 2000 3000 900 1000", "unsafe 0 wet")
}

func TestDeeds(t *testing.T) {
	d := deskBehind(t, "lot 1 1 1 1300", "lot 2 2 1 1500")
	expectError(t, d, "deed 3 0 3 0 1", api.ErrLess)
	expect(t, d, "deed 1 1 0 3 60", "moved 60")
	expect(t, d, "deed 1 2 0 3 40", "moved 40")
	expect(t, d, "deed 3 0 3 0 50", "moved 50")
	expect(t, d, "shares 3", "1 3 5", "2 2 5")
	expect(t, d, "accounts", "1 60 30 0 30", "2 40 20 0 20")
	expect(t, d, "deed 2 2 0 3 10", "moved 10")
	expect(t, d, "deed 6 0 3 0 0", "moved 0")
	expect(t, d, "deed 5 0 3 0 6", "moved 6")
	expect(t, d, "deed 4 0 3 0 54", "moved 54")
	expect(t, d, "accounts", "1 60 30 3 27", "2 50 20 3 27")
	expect(t, d, "shares 0", "1 1 2", "2 1 2")
	for line, e := range map[string]api.Errno{
		"deed 0 1 0 3 60": api.ErrDeed, "deed 7 1 0 3 60": api.ErrDeed, "deed 1 3 0 3 60": api.ErrDeed, "deed 1 1 1 3 60": api.ErrDeed, "deed 1 1 0 9 60": api.ErrDeed, "deed 1 1 0 3 0": api.ErrDeed,
		"deed 3 0 3 0 1": api.ErrLess, "deed 6 0 0 0 0": api.ErrNone, "deed 1 1 0 0 100000000": api.ErrLong, "shares 3": api.ErrNone, "shares 9": api.ErrArg, "shares -1": api.ErrArg,
	} {
		expectError(t, d, line, e)
	}
	// A lot that comes later can be poured, too; sixty deeds are kept.
	expect(t, d, "lot 7 2 1 1500", "ok")
	for range 53 {
		expect(t, d, "deed 1 7 0 8 2", "moved 2")
	}
	expect(t, d, "accounts", "1 60 30 3 27", "2 50 20 3 27", "7 106 0 0 106")
	expect(t, d, "shares 8", "7 1 1")
	expectError(t, d, "deed 1 7 0 8 2", api.ErrLong)
	expectError(t, d, "deed 0 7 0 8 2", api.ErrLong)
}

func TestShares(t *testing.T) {
	d := desk.New()
	expectError(t, d, "shares 9", api.ErrArg)
	expectError(t, d, "shares -1", api.ErrArg)
	expectError(t, d, "shares 8", api.ErrNone)
	expect(t, d, "accounts", "none")
	d = deskBehind(t, "lot 1 1 1 0", "lot 2 1 1 0", "lot 3 1 1 0", "deed 1 3 0 8 4", "deed 1 1 0 8 8")
	expect(t, d, "shares 8", "1 2 3", "3 1 3")
	expectError(t, d, "shares 0", api.ErrNone)
	expectError(t, d, "shares 9", api.ErrArg)
}

// signedBy is an entry as the desk signs it.
func signedBy(party, seq int, x api.Entry) api.Entry {
	x.At = api.Place{Party: party, Seq: seq}
	x, _ = book.Sign(x, uint64(1000003*(party+1)))
	return x
}

func expectBook(t *testing.T, d *desk.Desk, party int, want ...api.Entry) {
	t.Helper()
	if b := d.Book(party); !slices.Equal(b.Entries, want) {
		t.Errorf("%v, want %v", b.Entries, want)
	}
}

func TestNotes(t *testing.T) {
	d := desk.New()
	scale := api.Entry{Kind: api.FigScale, Lot: 7, Value: span(100, 120), Time: 5}
	correct := api.Entry{Kind: api.FigCorrect, Value: span(-5, 8), Time: 9, Of: api.Place{Party: 3, Seq: 0}}
	for p := range 4 {
		expect(t, d, "note "+strconv.Itoa(p)+" 1 7 100 120 5 0 0", "entry "+strconv.Itoa(p)+" 0")
		expectBook(t, d, p, signedBy(p, 0, scale))
	}
	expect(t, d, "note 3 5 0 -5 8 9 3 0", "entry 3 1")
	expectBook(t, d, 3, signedBy(3, 0, scale), signedBy(3, 1, correct))
	expect(t, d, "ledger 3", "1 7 3 0 3 1 -5 8")
	expect(t, d, "ledger 1", "1 7 1 0 1 0 100 120")
	for line, e := range map[string]api.Errno{
		"note 4 1 7 100 120 5 0 0": api.ErrArg, "note -1 0 0 100 120 5 0 0": api.ErrArg, "note 0 1 7 120 100 5 0 0": api.ErrEntry, "note 0 8 7 100 120 5 0 0": api.ErrEntry,
		"note 0 1 7 100 120 -1 0 0": api.ErrEntry, "note 0 1 7 100 120 5 1 0": api.ErrEntry, "note 0 5 0 100 120 5 4 0": api.ErrEntry, "note 0 5 0 100 120 5 0 -1": api.ErrEntry,
	} {
		expectError(t, d, line, e)
	}
	for _, p := range []int{-1, 4, 1 << 40} {
		if b := d.Book(p); len(b.Entries) > 0 {
			t.Error(p, b)
		}
	}
	for i := range 59 {
		expect(t, d, "note 0 1 7 100 120 5 0 0", "entry 0 "+strconv.Itoa(i+1))
	}
	expectError(t, d, "note 0 1 7 100 120 5 0 0", api.ErrLong)
	expect(t, d, "books", "entries 60", "entries 1", "entries 1", "entries 2")
}

// TestWires follows messages one by one.
func TestWires(t *testing.T) {
	d := desk.New()
	for _, line := range []string{"deliver 0", "lose 0", "double 0", "deliver -3"} {
		expectError(t, d, line, api.ErrNone)
	}
	expect(t, d, "offer 1 0", "messages 0")
	for i := range 3 {
		expect(t, d, "note 1 1 "+strconv.Itoa(1+i)+" 100 120 5 0 0", "entry 1 "+strconv.Itoa(i))
	}
	expect(t, d, "offer 1 0", "messages 3")
	expect(t, d, "offer 1 2", "messages 6")
	// Under way are the messages 0, 1, 2 to the ship, and the same to the surveyor.
	expect(t, d, "deliver 1", "messages 6")
	expect(t, d, "books", "entries 1", "entries 3", "entries 0", "entries 0")
	expect(t, d, "ledger 0", "1 2 1 1 1 1 100 120")
	// Now 0, 2 to the ship, 0, 1, 2 to the surveyor, the acknowledgement of 1. A number counts modulo six.
	expect(t, d, "lose -6", "messages 5")
	expect(t, d, "lose 10", "messages 4")
	// 0, 1, 2 to the surveyor, the acknowledgement. The third one is doubled, and both are delivered.
	expect(t, d, "double 2", "messages 5")
	expect(t, d, "deliver -1", "messages 5")
	expect(t, d, "books", "entries 1", "entries 3", "entries 1", "entries 0")
	expect(t, d, "ledger 2", "1 3 1 2 1 2 100 120")
	expect(t, d, "deliver 2", "messages 5")
	expect(t, d, "books", "entries 1", "entries 3", "entries 1", "entries 0")
	// 0 and 1 to the surveyor, the ship's acknowledgement of 1, two of 2. The shore offers what is not acknowledged.
	expect(t, d, "deliver 2", "messages 4")
	expect(t, d, "offer 1 0", "messages 6")
	expect(t, d, "deliver 5", "messages 6")
	expect(t, d, "ledger 0", "1 2 1 1 1 1 100 120", "1 3 1 2 1 2 100 120")
	expect(t, d, "deliver 0", "messages 6")
	expect(t, d, "deliver 1", "messages 5")
	expectError(t, d, "offer 4 0", api.ErrArg)
	expectError(t, d, "offer -1 0", api.ErrArg)
	expectError(t, d, "offer 0 4", api.ErrArg)
	expectError(t, d, "offer 0 0", api.ErrArg)
}

// TestFullWires: there are at most 60 messages under way.
func TestFullWires(t *testing.T) {
	d := desk.New()
	for range 20 {
		d.Do(command(t, "note 1 1 7 100 120 5 0 0"))
	}
	expect(t, d, "offer 1 0", "messages 20")
	expect(t, d, "offer 1 2", "messages 40")
	expect(t, d, "note 1 1 7 100 120 5 0 0", "entry 1 20")
	expectError(t, d, "offer 1 3", api.ErrLong)
	// Nothing was offered: what the shore wrote last may still be lost.
	expect(t, d, "restart 1 0", "entries 20")
	expect(t, d, "offer 1 3", "messages 60")
	expectError(t, d, "double 0", api.ErrLong)
	expectError(t, d, "offer 1 3", api.ErrLong)
	expect(t, d, "deliver 0", "messages 60")
	expect(t, d, "offer 0 1", "messages 60")
	expect(t, d, "lose 0", "messages 59")
	expect(t, d, "double 0", "messages 60")
	expect(t, d, "note 0 1 7 100 120 5 0 0", "entry 0 0")
	expectError(t, d, "offer 0 1", api.ErrLong)
	// What is offered when there is no room is not firm.
	expect(t, d, "restart 0 0", "entries 1")
}

// TestMessageGone: a message that a party refuses is gone.
func TestMessageGone(t *testing.T) {
	d := desk.New()
	for range 60 {
		d.Do(command(t, "note 0 1 7 100 120 5 0 0"))
	}
	expect(t, d, "note 1 1 7 100 120 5 0 0", "entry 1 0")
	expect(t, d, "offer 1 0", "messages 1")
	expect(t, d, "double 0", "messages 2")
	books := [2]api.Book{d.Book(0), d.Book(1)}
	expect(t, d, "deliver 0", "error 2")
	expect(t, d, "lose 0", "messages 0")
	if !same(books, [2]api.Book{d.Book(0), d.Book(1)}) {
		t.Error("a book has changed")
	}
	expectError(t, d, "deliver 0", api.ErrNone)
	// An acknowledgement of what its party has lost is refused, too.
	d = desk.New()
	expect(t, d, "note 1 1 7 100 120 5 0 0", "entry 1 0")
	expect(t, d, "offer 1 0", "messages 1")
	expect(t, d, "deliver 0", "messages 1")
	expect(t, d, "deliver 0", "messages 0")
	expect(t, d, "offer 1 0", "messages 0")
}

func TestRestart(t *testing.T) {
	d := desk.New()
	expect(t, d, "note 2 1 7 100 120 5 0 0", "entry 2 0")
	expect(t, d, "note 2 1 8 100 120 5 0 0", "entry 2 1")
	expect(t, d, "restart 2 32", "entries 2")
	expect(t, d, "note 2 1 9 100 120 5 0 0", "entry 2 2")
	expect(t, d, "restart 2 31", "entries 2")
	expect(t, d, "restart 2 0", "entries 2")
	expect(t, d, "note 2 1 9 100 120 5 0 0", "entry 2 2")
	expect(t, d, "restart 2 -1", "entries 3")
	expect(t, d, "books", "entries 0", "entries 0", "entries 3", "entries 0")
	for p := range 4 {
		expect(t, d, "restart "+strconv.Itoa(p)+" 5", "entries "+strconv.Itoa(len(d.Book(p).Entries)))
	}
	expectError(t, d, "restart 4 0", api.ErrArg)
	expectError(t, d, "restart -1 0", api.ErrArg)
	// Behind a failure of the power nobody knows who has what: all is offered again.
	expect(t, d, "offer 2 0", "messages 3")
	for range 6 {
		d.Do(command(t, "deliver 0"))
	}
	expect(t, d, "offer 2 0", "messages 0")
	expect(t, d, "restart 2 0", "entries 3")
	expect(t, d, "offer 2 0", "messages 3")
}
