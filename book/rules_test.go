package book_test

import (
	"math"
	"math/rand"
	"reflect"
	"slices"
	"strings"
	"testing"

	"ullage/api"
	"ullage/book"
)

// request is what the functions are asked. (Its fields have great letters so that change can set them.)
type request struct {
	X             api.Entry
	Bytes         []byte
	Key           uint64
	Book, Other   api.Book
	Disk          api.Disk
	Store         api.Store
	Kept          []int
	At            api.Place
	Lot, Party    int
	Node          api.Node
	Me, To        int
	Own           api.Entry
	Message, Told api.Message
	Keys          [api.MaxParties]uint64
}

func exampleRequest() request {
	x, y, z := signed(exampleX(), 11), signed(exampleY(), 12), signed(exampleZ(), 12)
	q := request{
		X: scale(3, 5, 7, 1, 2, 3), Bytes: wantBytes(x), Key: 11, Book: of(x, y, z), Other: of(x, scale(2, 0, 9, 0, 1, 2)),
		Disk: diskOf(0, 1, y), Store: storeOf(0, 1, y), Kept: []int{32, 31, 32},
		At: y.At, Lot: 7, Party: 3, Node: nodeOf(1, x), Me: 2, To: 3, Own: scale(0, 0, 7, 1, 2, 3),
		Message: api.Message{From: 2, To: 1, Entry: signed(accept(3, 8, 9, x.At), 14)},
		Told:    api.Message{From: 2, To: 1, Ack: true, Entry: api.Entry{At: y.At}}, Keys: exampleKeys(),
	}
	q.append(x)
	q.note(y)
	q.note(z)
	q.Node.Known = [api.MaxParties][]api.Place{{y.At}, {}, {x.At, place(3, 3)}, {x.At}}
	return q
}

// append puts an entry into the journal, if it can be put there.
func (q *request) append(x api.Entry) {
	if d, m, e := book.Append(q.Disk, q.Store, x); e == api.OK {
		q.Disk, q.Store = d, m
	}
}

// note puts an entry into the node's journal, if it can be put there.
func (q *request) note(x api.Entry) {
	if d, m, e := book.Append(q.Node.Disk, q.Node.Store, x); e == api.OK {
		q.Node.Disk, q.Node.Store = d, m
	}
}

// fill makes all books full, without the entry that is asked for, unless they have another one of its place.
func (q *request) fill() {
	for _, x := range many(2, 60) {
		q.append(x)
		q.note(x)
		if len(q.Book.Entries) < api.MaxEntries {
			b, _ := book.Add(q.Book, x)
			q.Book = b
		}
	}
}

// refill makes all books those with another entry of the place asked for, as full as they were.
func (q *request) refill() {
	for _, l := range []struct {
		b *api.Book
		x api.Entry
	}{{&q.Book, q.X}, {&q.Store.Book, q.X}, {&q.Node.Store.Book, q.Message.Entry}} {
		if len(l.b.Entries) == api.MaxEntries {
			l.b.Entries = slices.Delete(slices.Clone(l.b.Entries), 30, 31)
		}
		l.b.Entries = sorted(append(slices.Clone(l.b.Entries), with(l.x, func(x *api.Entry) { x.Time++ })))
	}
	for _, l := range []struct {
		d *api.Disk
		m *api.Store
	}{{&q.Disk, &q.Store}, {&q.Node.Disk, &q.Node.Store}} {
		*l.d, *l.m = diskOf(0, 1, l.m.Book.Entries...), storeOf(0, 1, l.m.Book.Entries...)
	}
}

// results are those of a function, beside its error.
type results []any

// call asks one function.
type call struct {
	what  string
	takes string // in the order of the errors
	do    func(q request) (results, api.Errno)
}

func none(e api.Errno) (results, api.Errno)                     { return nil, e }
func single[T any](x T, e api.Errno) (results, api.Errno)       { return results{x}, e }
func pair[T, U any](x T, y U, e api.Errno) (results, api.Errno) { return results{x, y}, e }

func calls() []call {
	return []call{
		{"CheckEntry", "entry", func(q request) (results, api.Errno) { return none(book.CheckEntry(q.X)) }},
		{"Encode", "entry", func(q request) (results, api.Errno) { return single(book.Encode(q.X)) }},
		{"Decode", "bytes", func(q request) (results, api.Errno) { return single(book.Decode(q.Bytes)) }},
		{"Tag", "", func(q request) (results, api.Errno) { return single(book.Tag(q.Bytes, q.Key), api.OK) }},
		{"Sign", "entry", func(q request) (results, api.Errno) { return single(book.Sign(q.X, q.Key)) }},
		{"Verify", "mail seal", func(q request) (results, api.Errno) { return none(book.Verify(q.Message.Entry, q.Keys[3])) }},
		{"CheckBook", "book", func(q request) (results, api.Errno) { return none(book.CheckBook(q.Book)) }},
		{"Add", "book entry two long", func(q request) (results, api.Errno) { return single(book.Add(q.Book, q.X)) }},
		{"Join", "book other against much", func(q request) (results, api.Errno) { return single(book.Join(q.Book, q.Other)) }},
		{"Next", "", func(q request) (results, api.Errno) { return single(book.Next(q.Book, q.Party), api.OK) }},
		{"New", "", func(q request) (results, api.Errno) {
			d, m := book.New()
			return pair(d, m, api.OK)
		}},
		{"Sync", "", func(q request) (results, api.Errno) { return single(book.Sync(q.Disk), api.OK) }},
		{"Crash", "", func(q request) (results, api.Errno) { return single(book.Crash(q.Disk, q.Kept), api.OK) }},
		{"Open", "disk", func(q request) (results, api.Errno) { return pair(book.Open(q.Disk)) }},
		{"Append", "disk store entry two long", func(q request) (results, api.Errno) { return pair(book.Append(q.Disk, q.Store, q.X)) }},
		{"Pack", "disk store last", func(q request) (results, api.Errno) { return pair(book.Pack(q.Disk, q.Store)) }},
		{"Heir", "book original", func(q request) (results, api.Errno) { return single(book.Heir(q.Book, q.At)) }},
		{"Ledger", "book", func(q request) (results, api.Errno) { return single(book.Ledger(q.Book)) }},
		{"Agreed", "book lot", func(q request) (results, api.Errno) { return single(book.Agreed(q.Book, q.Lot)) }},
		{"Disputes", "book", func(q request) (results, api.Errno) { return single(book.Disputes(q.Book)) }},
		{"Binds", "book party original", func(q request) (results, api.Errno) { return single(book.Binds(q.Book, q.Party, q.At)) }},
		{"NewNode", "me", func(q request) (results, api.Errno) { return single(book.NewNode(q.Me)) }},
		{"Note", "node own long", func(q request) (results, api.Errno) { return pair(book.Note(q.Node, q.Own, q.Key)) }},
		{"Offer", "node to", func(q request) (results, api.Errno) { return pair(book.Offer(q.Node, q.To)) }},
		{"Receive", "node way mail seal two long", func(q request) (results, api.Errno) {
			return pair(book.Receive(q.Node, q.Message, q.Keys))
		}},
		{"Receive of what is told", "node back told", func(q request) (results, api.Errno) {
			return pair(book.Receive(q.Node, q.Told, q.Keys))
		}},
		{"Restart", "node", func(q request) (results, api.Errno) { return single(book.Restart(q.Node, q.Kept)) }},
	}
}

// areNothing reports whether results are zero values; empty lists count as such.
func areNothing(l results) bool {
	return !slices.ContainsFunc(l, func(x any) bool { return !isNothing(reflect.ValueOf(x)) })
}

func isNothing(v reflect.Value) bool {
	switch v.Kind() {
	case reflect.Slice:
		return v.Len() == 0
	case reflect.Struct:
		for i := range v.NumField() {
			if !isNothing(v.Field(i)) {
				return false
			}
		}
		return true
	case reflect.Array:
		for i := range v.Len() {
			if !isNothing(v.Index(i)) {
				return false
			}
		}
		return true
	}
	return v.IsZero()
}

// defect is what makes a request invalid.
type defect struct {
	what string
	do   func(q *request)
	e    api.Errno
}

// defects has what can be wrong with a request, by what a function takes, each list in the order in which it is told.
func defects() map[string][]defect {
	return map[string][]defect{
		"entry": {
			{"a kind", func(q *request) { q.X.Kind = 8 }, api.ErrEntry},
			{"a time", func(q *request) { q.X.Time = -1 }, api.ErrEntry},
		},
		"bytes": {{"few bytes", func(q *request) { q.Bytes = q.Bytes[1:] }, api.ErrEntry}, {"no kind", func(q *request) { q.Bytes[5] = 0 }, api.ErrEntry}},
		"book": {
			{"equal places", func(q *request) { q.Book = of(append(slices.Clone(q.Book.Entries), q.Book.Entries[0])...) }, api.ErrBook},
			{"an entry of the book", func(q *request) { q.Book.Entries[0].Lot = 0 }, api.ErrBook},
			{"many entries", func(q *request) { q.Book = of(many(0, 61)...) }, api.ErrBook},
		},
		"other": {{"another book's entry", func(q *request) { q.Other.Entries[0].Kind = 0 }, api.ErrBook}},
		"two":   {{"an unlike entry", (*request).refill, api.ErrTwo}},
		"long":  {{"a full book", (*request).fill, api.ErrLong}},
		"against": {{"an unlike entry of the other book", func(q *request) {
			q.Other.Entries[0] = with(q.Book.Entries[0], func(x *api.Entry) { x.Time++ })
		}, api.ErrTwo}},
		"much": {{"a long book", func(q *request) { q.Other = of(append([]api.Entry{q.Book.Entries[0]}, many(2, 58)...)...) }, api.ErrLong}},
		"disk": {
			{"a write beside the disk", func(q *request) { q.Disk.Wait = append(q.Disk.Wait, api.Write{At: 242}) }, api.ErrDisk},
			{"no head", func(q *request) { q.Disk.Sectors[0] = api.Sector{} }, api.ErrDisk},
			{"two entries of one place", func(q *request) {
				q.Disk = diskOf(0, 1, exampleX(), exampleX())
			}, api.ErrDisk},
		},
		"store": {
			{"another book's store", func(q *request) { q.Store.Book = of(exampleZ()) }, api.ErrDisk},
			{"another generation", func(q *request) { q.Store.Generation++ }, api.ErrDisk},
			{"other sectors that are used", func(q *request) { q.Store.Used++ }, api.ErrDisk},
			{"another area", func(q *request) { q.Store.Area = 1 }, api.ErrDisk},
			{"something behind the entries", func(q *request) { q.Disk.Sectors[200][7] = 7 }, api.ErrDisk},
		},
		"last": {{"the last generation", func(q *request) {
			q.Disk, q.Store = diskOf(0, 1000000000), storeOf(0, 1000000000)
		}, api.ErrDisk}},
		"original": {{"no original", func(q *request) { q.At = exampleZ().At }, api.ErrNone}},
		"lot":      {{"a lot that nobody knows", func(q *request) { q.Lot = 8 }, api.ErrNone}},
		"party":    {{"no party", func(q *request) { q.Party = 4 }, api.ErrArg}},
		"me":       {{"nobody", func(q *request) { q.Me = -1 }, api.ErrArg}, {"a fifth party", func(q *request) { q.Me = 4 }, api.ErrArg}},
		"node": {
			{"another one", func(q *request) { q.Node.Me = 4 }, api.ErrArg},
			{"places that do not increase", func(q *request) { q.Node.Known[2] = slices.Repeat([]api.Place{{}}, 2) }, api.ErrArg},
			{"a place that may not be", func(q *request) { q.Node.Known[0] = []api.Place{place(0, 100000)} }, api.ErrArg},
			{"another store", func(q *request) { q.Node.Store.Generation++ }, api.ErrDisk},
			{"another disk", func(q *request) { q.Node.Disk.Sectors[200][0] = 1 }, api.ErrDisk},
		},
		"own":  {{"an entry that may not be noted", func(q *request) { q.Own.Lot = 0 }, api.ErrEntry}},
		"to":   {{"an offer to nobody", func(q *request) { q.To = 4 }, api.ErrArg}, {"an offer to itself", func(q *request) { q.To = 1 }, api.ErrArg}},
		"way":  {{"a message to another one", func(q *request) { q.Message.To = 0 }, api.ErrArg}, {"a message of its own", func(q *request) { q.Message.From = 1 }, api.ErrArg}},
		"mail": {{"an entry that may not be sent", func(q *request) { q.Message.Entry.Value.Hi = 1 }, api.ErrEntry}},
		"seal": {{"another tag", func(q *request) { q.Message.Entry.Tag++ }, api.ErrSeal}, {"another key", func(q *request) { q.Keys[3]++ }, api.ErrSeal}},
		"back": {{"what is told another one", func(q *request) { q.Told.To = 0 }, api.ErrArg}, {"what nobody tells", func(q *request) { q.Told.From = 4 }, api.ErrArg}},
		"told": {{"a place without an entry", func(q *request) { q.Told.Entry.At.Seq = 70 }, api.ErrNone}},
	}
}

// TestErrors is the order of errors of all functions, with zero values beside each: of two defects, the one that is named first decides.
func TestErrors(t *testing.T) {
	for _, f := range calls() {
		var l []defect
		for _, what := range strings.Fields(f.takes) {
			l = append(l, defects()[what]...)
		}
		expect := func(e api.Errno, list ...defect) {
			q := exampleRequest()
			for _, d := range list {
				d.do(&q)
			}
			x, got := f.do(q)
			if got != e {
				var what []string
				for _, d := range list {
					what = append(what, d.what)
				}
				t.Errorf("%s with %v: %d, want %d", f.what, what, got, e)
			}
			if got != api.OK && !areNothing(x) {
				t.Errorf("%s: %v with the error %d", f.what, x, got)
			}
		}
		expect(api.OK)
		for i, d := range l {
			expect(d.e, d)
			for _, later := range l[i+1:] {
				expect(d.e, later, d)
			}
		}
	}
}

// block is the memory of a list.
type block struct{ from, to uintptr }

// blocks are those of all lists of a value.
func blocks(v reflect.Value) []block {
	var l []block
	switch v.Kind() {
	case reflect.Slice:
		if v.Cap() > 0 {
			l = append(l, block{v.Pointer(), v.Pointer() + uintptr(v.Cap())*v.Type().Elem().Size()})
		}
		for i := range v.Len() {
			l = append(l, blocks(v.Index(i))...)
		}
	case reflect.Array:
		if v.Type().Elem().Kind() != reflect.Uint8 {
			for i := range v.Len() {
				l = append(l, blocks(v.Index(i))...)
			}
		}
	case reflect.Struct:
		for i := range v.NumField() {
			l = append(l, blocks(v.Field(i))...)
		}
	}
	return l
}

// shares reports whether any two of these blocks share memory.
func shares(l []block) bool {
	for i, a := range l {
		for _, b := range l[i+1:] {
			if a.from < b.to && b.from < a.to {
				return true
			}
		}
	}
	return false
}

// spoil makes all elements of lists others.
func spoil(v reflect.Value) {
	switch v.Kind() {
	case reflect.Slice:
		for i := range v.Len() {
			spoil(v.Index(i))
			v.Index(i).SetZero()
		}
	case reflect.Array:
		for i := range v.Len() {
			spoil(v.Index(i))
		}
	case reflect.Struct:
		for i := range v.NumField() {
			spoil(v.Field(i))
		}
	}
}

// requests are those in which what is asked for is there already, or is not valid, too.
func requests() []func(q *request) {
	return []func(q *request){
		func(q *request) {},
		func(q *request) { q.X = q.Store.Book.Entries[0] },
		func(q *request) { q.X, q.Other = q.Book.Entries[1], q.Book },
		func(q *request) { q.Other = api.Book{} },
		func(q *request) { q.Disk.Wait[0].At = -1 },
		func(q *request) { q.Disk, q.Node.Disk = book.Sync(q.Disk), book.Sync(q.Node.Disk) },
		func(q *request) { q.Message.Entry = q.Node.Store.Book.Entries[2] },
		func(q *request) { q.Told.Entry.At = q.Node.Known[2][0] },
		(*request).fill,
	}
}

// TestMemory is R4: no argument is changed, and no result shares memory with one, or with another one.
func TestMemory(t *testing.T) {
	for _, change := range requests() {
		for _, f := range calls() {
			ask := func() request {
				q := exampleRequest()
				change(&q)
				return q
			}
			q := ask()
			want, _ := f.do(ask())
			x, _ := f.do(q)
			if !reflect.DeepEqual(q, ask()) || !reflect.DeepEqual(x, want) {
				t.Errorf("%s has changed its arguments", f.what)
			}
			all := blocks(reflect.ValueOf(q))
			for _, y := range x {
				all = append(all, blocks(reflect.ValueOf(y))...)
			}
			// The arguments themselves share some where a request has one value twice.
			if shares(all) && !shares(blocks(reflect.ValueOf(q))) {
				t.Errorf("%s: a result shares memory", f.what)
			}
			for _, y := range x {
				spoil(reflect.ValueOf(y))
			}
			if again, _ := f.do(q); !reflect.DeepEqual(q, ask()) || !reflect.DeepEqual(again, want) {
				t.Errorf("%s: another result, once the first one was spoilt", f.what)
			}
		}
	}
}

// TestRoomBehindLists: what lies in memory behind the lists that are handed in is kept too.
func TestRoomBehindLists(t *testing.T) {
	for _, f := range calls() {
		q := exampleRequest()
		entries, stored, waiting, known := append(q.Book.Entries, exampleX()), append(q.Store.Book.Entries, exampleX()), append(q.Disk.Wait, api.Write{At: 5}), append(q.Node.Known[2], place(3, 9))
		q.Book.Entries, q.Store.Book.Entries, q.Disk.Wait, q.Node.Known[2] = entries[:3], stored[:2], waiting[:2], known[:2]
		if _, e := f.do(q); e != api.OK {
			t.Error(f.what, e)
		}
		if entries[3] != exampleX() || stored[2] != exampleX() || waiting[2] != (api.Write{At: 5}) || known[2] != place(3, 9) {
			t.Errorf("%s has changed what lies behind its arguments", f.what)
		}
	}
}

// TestNothing: what the functions tell of nothing, be its lists nil or empty (R3).
func TestNothing(t *testing.T) {
	want := map[string]api.Errno{
		"CheckEntry": api.ErrEntry, "Encode": api.ErrEntry, "Decode": api.ErrEntry, "Sign": api.ErrEntry, "Verify": api.ErrEntry, "Add": api.ErrEntry,
		"Open": api.ErrDisk, "Append": api.ErrDisk, "Pack": api.ErrDisk, "Heir": api.ErrNone, "Agreed": api.ErrNone, "Binds": api.ErrNone,
		"Note": api.ErrDisk, "Offer": api.ErrDisk, "Receive": api.ErrDisk, "Receive of what is told": api.ErrDisk, "Restart": api.ErrDisk,
	}
	something := []string{"Tag", "New", "NewNode"}
	empty := request{
		Bytes: []byte{}, Book: of([]api.Entry{}...), Other: of([]api.Entry{}...), Disk: api.Disk{Wait: []api.Write{}}, Kept: []int{},
		Store: api.Store{Book: of([]api.Entry{}...)}, Node: api.Node{Disk: api.Disk{Wait: []api.Write{}}, Known: [4][]api.Place{{}, {}, {}, {}}},
	}
	for _, q := range []request{{}, empty} {
		for _, f := range calls() {
			x, e := f.do(q)
			if e != want[f.what] || areNothing(x) == slices.Contains(something, f.what) {
				t.Errorf("%s of nothing: %d", f.what, e)
			}
		}
	}
	// Lists that are nil or empty are the same in a store and a node, too.
	d, m := book.New()
	m.Book.Entries, d.Wait = []api.Entry{}, []api.Write{}
	if _, n, e := book.Append(d, m, exampleX()); !sameBook(n.Book, of(exampleX())) || e != api.OK {
		t.Error(n, e)
	}
	n := api.Node{Disk: d, Store: m, Known: empty.Node.Known}
	if n, l, e := book.Offer(n, 1); !sameNode(n, nodeOf(0)) || len(l) > 0 || e != api.OK {
		t.Error(n, l, e)
	}
}

// oddNumber is one at a limit, or far from all.
func oddNumber(r *rand.Rand) int {
	l := []int{0, 1, 2, 3, 4, 5, 6, 7, 8, 9, 32, 33, 60, 120, 121, 122, 241, 242, 99999, 1000000, 1000000000, 1000000000000, 1 << 31, 1 << 32, 1 << 62, math.MaxInt, math.MinInt, -1, -2, -1000000000000}
	return l[r.Intn(len(l))] + r.Intn(3)*r.Intn(2) - r.Intn(2)
}

// change makes a value another one, at random places: numbers, lists, or parts of them.
func change(r *rand.Rand, v reflect.Value) {
	switch v.Kind() {
	case reflect.Int:
		v.SetInt(int64(oddNumber(r)))
	case reflect.Uint8, reflect.Uint64:
		v.SetUint(uint64(oddNumber(r)))
	case reflect.Bool:
		v.SetBool(!v.Bool())
	case reflect.Struct:
		change(r, v.Field(r.Intn(v.NumField())))
	case reflect.Array:
		change(r, v.Index(r.Intn(v.Len())))
	case reflect.Slice:
		n := v.Len()
		switch {
		case n == 0 || r.Intn(8) == 0:
			v.Set(reflect.Append(v.Slice(0, n), reflect.New(v.Type().Elem()).Elem()))
		case r.Intn(6) == 0:
			v.Set(reflect.AppendSlice(v.Slice(0, n/2), v.Slice((n+1)/2, n)))
		case r.Intn(10) == 0 && n < 1000:
			v.Set(reflect.AppendSlice(v.Slice(0, n), v.Slice(0, n)))
		default:
			change(r, v.Index(r.Intn(n)))
		}
	}
}

// TestAnyArguments is P1: no function panics, and beside an error are zero values.
func TestAnyArguments(t *testing.T) {
	r := rand.New(rand.NewSource(94))
	failed := map[string]int{}
	for range 15000 {
		q := exampleRequest()
		for range 1 + r.Intn(12) {
			change(r, reflect.ValueOf(&q).Elem())
		}
		f := calls()[r.Intn(len(calls()))]
		x, e := f.do(q)
		if e != api.OK {
			failed[f.what]++
			if !areNothing(x) {
				t.Errorf("%s: %v with the error %d", f.what, x, e)
			}
		}
	}
	for _, f := range calls() {
		if f.takes != "" && failed[f.what] < 20 {
			t.Error("too few cases:", f.what, failed[f.what])
		}
	}
}

// TestGreatArguments: lists that are far too long, and those that are as long as they may be.
func TestGreatArguments(t *testing.T) {
	q := exampleRequest()
	q.Disk.Wait = slices.Repeat(q.Disk.Wait, 100000)
	q.Kept = slices.Repeat(q.Kept, 1000000)
	q.Bytes = make([]byte, 10000000)
	q.Other = of(make([]api.Entry, 1000000)...)
	q.Node.Known = [api.MaxParties][]api.Place{}
	for i := range 400000 {
		q.Node.Known[i/200000] = append(q.Node.Known[i/200000], place(i/100000, i%100000))
	}
	want := map[string]api.Errno{"Decode": api.ErrEntry, "Join": api.ErrBook}
	for _, f := range calls() {
		if _, e := f.do(q); e != want[f.what] {
			t.Errorf("%s of great arguments: %d", f.what, e)
		}
	}
}
