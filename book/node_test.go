package book_test

import (
	"math"
	"slices"
	"testing"

	"ullage/api"
	"ullage/book"
)

// exampleKeys are the keys of the parties.
func exampleKeys() [api.MaxParties]uint64 { return [api.MaxParties]uint64{11, 12, 13, 14} }

// nodeOf is a node with entries that are firm.
func nodeOf(me int, l ...api.Entry) api.Node {
	return api.Node{Me: me, Disk: diskOf(0, 1, l...), Store: storeOf(0, 1, l...)}
}

// knowing is a node that knows what another party has.
func knowing(n api.Node, party int, l ...api.Place) api.Node {
	n.Known[party] = l
	return n
}

// invalidNodes have ErrArg or ErrDisk.
func invalidNodes() map[api.Errno][]api.Node {
	x, y := exampleX(), exampleY()
	n := nodeOf(1, x, y)
	l := map[api.Errno][]api.Node{}
	for _, odd := range []int{-1, 4, math.MinInt, math.MaxInt} {
		l[api.ErrArg] = append(l[api.ErrArg], nodeOf(odd, x, y), knowing(n, 0, place(odd, 0)))
	}
	for _, known := range [][]api.Place{{place(0, -1)}, {place(0, 100000)}, {place(0, 0), place(1, math.MaxInt)}, {place(1, math.MinInt)}, {place(0, 0), place(0, 0)}, {place(0, 1), place(0, 0)}, {place(1, 0), place(0, 1)}, {place(0, 0), place(1, 0), place(0, 1)}} {
		for party := range 4 {
			l[api.ErrArg] = append(l[api.ErrArg], knowing(n, party, known...))
		}
	}
	for _, m := range wrongStores() {
		bad := n
		bad.Store = m
		l[api.ErrDisk] = append(l[api.ErrDisk], bad)
	}
	bad := n
	bad.Disk.Wait = []api.Write{{At: -1}}
	both := bad
	both.Me = 4
	l[api.ErrDisk] = append(l[api.ErrDisk], bad, api.Node{})
	l[api.ErrArg] = append(l[api.ErrArg], both, knowing(bad, 2, place(0, 1), place(0, 1)))
	return l
}

func TestInvalidNodes(t *testing.T) {
	for e, l := range invalidNodes() {
		for _, n := range l {
			expectNote(t, n, exampleX(), 1, api.Node{}, e)
			expectNote(t, n, api.Entry{}, 1, api.Node{}, e)
			for _, to := range []int{0, 1, -1, 4} {
				if m, l, f := book.Offer(n, to); !sameNode(m, api.Node{}) || len(l) > 0 || f != e {
					t.Errorf("Offer of %v: %d, want %d", n.Known, f, e)
				}
			}
			for _, m := range []api.Message{{}, {From: 0, To: 1, Entry: signed(exampleX(), 11)}, {From: 0, To: 1, Ack: true}, {From: 9}} {
				expectReceive(t, n, m, api.Node{}, e)
			}
			if m, f := book.Restart(n, nil); !sameNode(m, api.Node{}) || f != e {
				t.Errorf("Restart of %v: %d, want %d", n.Known, f, e)
			}
		}
	}
}

func TestNewNode(t *testing.T) {
	for me := range 4 {
		n, e := book.NewNode(me)
		if !sameNode(n, nodeOf(me)) || e != api.OK {
			t.Error(n, e)
		}
	}
	for _, odd := range []int{-1, 4, math.MinInt, math.MaxInt} {
		if n, e := book.NewNode(odd); !sameNode(n, api.Node{}) || e != api.ErrArg {
			t.Error(odd, n, e)
		}
	}
}

// expectNote expects a node, whose book's last entry of its own is told too.
func expectNote(t *testing.T, n api.Node, x api.Entry, key uint64, want api.Node, e api.Errno) api.Node {
	t.Helper()
	m, y, f := book.Note(n, x, key)
	var told api.Entry
	for _, z := range want.Store.Book.Entries {
		if z.At.Party == want.Me {
			told = z
		}
	}
	if !sameNode(m, want) || y != told || f != e {
		t.Errorf("Note of %v: %v %v %d, want %v %v %d", x, m.Store, y, f, want.Store, told, e)
	}
	return m
}

func TestNote(t *testing.T) {
	x, y := exampleX(), exampleY()
	n := knowing(nodeOf(2, x, y), 0, x.At)
	// The place and the tag that are handed in do not count.
	for _, z := range []api.Entry{scale(0, 0, 4, 1, 2, 3), scale(2, 55, 4, 1, 2, 3), with(scale(-1, -1, 4, 1, 2, 3), func(x *api.Entry) { x.Tag = 9 })} {
		own := signed(scale(2, 0, 4, 1, 2, 3), 77)
		want := n
		want.Disk, want.Store = appended(t, n.Disk, n.Store, own)
		m := expectNote(t, n, z, 77, want, api.OK)
		if len(m.Disk.Wait) != 2 {
			t.Error(m.Disk.Wait)
		}
		more := signed(accept(2, 1, 4, y.At), 78)
		want.Disk, want.Store = appended(t, want.Disk, want.Store, more)
		expectNote(t, m, accept(0, 0, 4, y.At), 78, want, api.OK)
	}
	for _, z := range invalidEntries() {
		z.At = x.At
		if !wantValid(z) {
			expectNote(t, n, z, 77, api.Node{}, api.ErrEntry)
		}
	}
	// Behind a gap; at the last place; behind it; in a full book.
	n = nodeOf(0, scale(0, 7, 1, 0, 0, 0), x)
	own := signed(scale(0, 8, 1, 0, 0, 0), 1)
	want := n
	want.Disk, want.Store = appended(t, n.Disk, n.Store, own)
	expectNote(t, n, scale(0, 0, 1, 0, 0, 0), 1, want, api.OK)
	n = nodeOf(3, scale(3, 99998, 1, 0, 0, 0))
	own = signed(x, 1)
	own.At = place(3, 99999)
	own = signed(own, 1)
	want = n
	want.Disk, want.Store = appended(t, n.Disk, n.Store, own)
	n = expectNote(t, n, x, 1, want, api.OK)
	expectNote(t, n, x, 1, api.Node{}, api.ErrEntry)
	expectNote(t, nodeOf(3, many(2, 60)...), x, 1, api.Node{}, api.ErrLong)
	expectNote(t, nodeOf(2, many(2, 60)...), x, 1, api.Node{}, api.ErrLong)
	expectNote(t, nodeOf(2, many(2, 60)...), api.Entry{}, 1, api.Node{}, api.ErrEntry)
}

func TestOffer(t *testing.T) {
	x, y, z := exampleX(), exampleY(), exampleZ()
	n := nodeOf(1, x, z)
	n.Disk, n.Store = appended(t, n.Disk, n.Store, y)
	third := map[int]int{0: 2, 2: 3, 3: 0} // what is known of this party does not count
	for _, c := range []struct {
		known []api.Place
		want  []api.Entry
	}{
		{nil, []api.Entry{x, y, z}},
		{[]api.Place{y.At}, []api.Entry{x, z}},
		{[]api.Place{x.At, z.At, place(3, 9)}, []api.Entry{y}},
		{[]api.Place{x.At, y.At, z.At}, nil},
		{[]api.Place{place(0, 1), place(3, 9)}, []api.Entry{x, y, z}},
	} {
		for _, to := range []int{0, 2, 3} {
			n := knowing(knowing(n, to, c.known...), third[to], place(0, 5))
			m, l, e := book.Offer(n, to)
			want := n
			want.Disk = wantSync(n.Disk)
			var messages []api.Message
			for _, x := range c.want {
				messages = append(messages, api.Message{From: 1, To: to, Entry: x})
			}
			if !sameNode(m, want) || !slices.Equal(l, messages) || e != api.OK {
				t.Errorf("Offer to %d, which has %v: %v %d", to, c.known, l, e)
			}
		}
	}
	for _, to := range []int{1, -1, 4, math.MinInt, math.MaxInt} {
		if m, l, e := book.Offer(n, to); !sameNode(m, api.Node{}) || len(l) > 0 || e != api.ErrArg {
			t.Errorf("Offer to %d: %v %d", to, l, e)
		}
	}
	m, _ := book.NewNode(1)
	if got, l, e := book.Offer(m, 0); !sameNode(got, m) || len(l) > 0 || e != api.OK {
		t.Error(l, e)
	}
}

// expectReceive expects a node, and answers.
func expectReceive(t *testing.T, n api.Node, m api.Message, want api.Node, e api.Errno, answers ...api.Message) api.Node {
	t.Helper()
	got, l, f := book.Receive(n, m, exampleKeys())
	if !sameNode(got, want) || !slices.Equal(l, answers) || f != e {
		t.Errorf("Receive of %v: %v %v %v %d, want %v %v %v %d", m, got.Store, got.Known, l, f, want.Store, want.Known, answers, e)
	}
	return got
}

func TestReceive(t *testing.T) {
	x, y, z := signed(exampleX(), 11), signed(exampleY(), 12), signed(exampleZ(), 12)
	n := knowing(nodeOf(2, z), 1, place(0, 5), z.At)
	// Not all was firm before, but all is behind it.
	n.Disk, n.Store = appended(t, n.Disk, n.Store, y)
	for _, from := range []int{0, 1, 3} {
		want := n
		want.Disk, want.Store = appended(t, n.Disk, n.Store, x)
		want.Disk = wantSync(want.Disk)
		known := []api.Place{x.At}
		if from == 1 {
			known = []api.Place{x.At, place(0, 5), z.At}
		}
		want.Known[from] = known
		ack := api.Message{From: 2, To: from, Ack: true, Entry: x}
		message := api.Message{From: from, To: 2, Entry: x}
		m := expectReceive(t, n, message, want, api.OK, ack)
		// Once more, it changes nothing, and is acknowledged again.
		expectReceive(t, m, message, want, api.OK, ack)
	}
	// An entry that the book has is made firm and acknowledged too.
	want := knowing(n, 3, y.At)
	want.Disk = wantSync(n.Disk)
	expectReceive(t, n, api.Message{From: 3, To: 2, Entry: y}, want, api.OK, api.Message{From: 2, To: 3, Ack: true, Entry: y})
}

func TestReceiveAcknowledgements(t *testing.T) {
	x, y, z := signed(exampleX(), 11), signed(exampleY(), 12), signed(exampleZ(), 12)
	n := knowing(nodeOf(2, x, z), 1, place(0, 5))
	n.Disk, n.Store = appended(t, n.Disk, n.Store, y)
	ack := func(from int, at api.Place) api.Message {
		return api.Message{From: from, To: 2, Ack: true, Entry: api.Entry{At: at}}
	}
	m := expectReceive(t, n, ack(1, y.At), knowing(n, 1, place(0, 5), y.At), api.OK)
	m = expectReceive(t, m, ack(1, x.At), knowing(n, 1, x.At, place(0, 5), y.At), api.OK)
	m = expectReceive(t, m, ack(1, z.At), knowing(n, 1, x.At, place(0, 5), y.At, z.At), api.OK)
	m = expectReceive(t, m, ack(1, y.At), knowing(n, 1, x.At, place(0, 5), y.At, z.At), api.OK)
	expectReceive(t, m, ack(3, y.At), knowing(m, 3, y.At), api.OK)
	// Of an acknowledgement only the place counts.
	whole := ack(0, y.At)
	whole.Entry = with(y, func(x *api.Entry) { x.Tag++; x.Lot = 0 })
	expectReceive(t, n, whole, knowing(n, 0, y.At), api.OK)
	for _, at := range []api.Place{place(0, 1), place(0, 5), place(3, 0), place(-1, 0), place(0, 100000)} {
		expectReceive(t, m, ack(1, at), api.Node{}, api.ErrNone)
		expectReceive(t, m, ack(2, at), api.Node{}, api.ErrArg)
	}
}

func TestReceiveErrors(t *testing.T) {
	x := signed(exampleX(), 11)
	n := nodeOf(2, x)
	from := func(party int, y api.Entry) api.Message { return api.Message{From: party, To: 2, Entry: y} }
	for _, odd := range []int{0, 1, 3, -1, 4, math.MinInt, math.MaxInt} {
		for _, ack := range []bool{false, true} {
			expectReceive(t, n, api.Message{From: 1, To: odd, Ack: ack, Entry: x}, api.Node{}, api.ErrArg)
			expectReceive(t, n, api.Message{From: 1, To: odd, Ack: ack}, api.Node{}, api.ErrArg)
		}
	}
	for _, odd := range []int{2, -1, 4, math.MinInt, math.MaxInt} {
		for _, ack := range []bool{false, true} {
			expectReceive(t, n, api.Message{From: odd, To: 2, Ack: ack, Entry: x}, api.Node{}, api.ErrArg)
			expectReceive(t, n, api.Message{From: odd, To: 2, Ack: ack}, api.Node{}, api.ErrArg)
		}
	}
	for _, y := range invalidEntries() {
		expectReceive(t, n, from(1, y), api.Node{}, api.ErrEntry)
	}
	// The key is that of the entry's party, not that of the sender.
	y := exampleY()
	for _, key := range []uint64{0, 11, 13, 14} {
		expectReceive(t, n, from(0, signed(y, key)), api.Node{}, api.ErrSeal)
	}
	expectReceive(t, n, from(0, exampleX()), api.Node{}, api.ErrSeal)
	other := signed(with(x, func(x *api.Entry) { x.Time++ }), 11)
	expectReceive(t, n, from(0, other), api.Node{}, api.ErrTwo)
	expectReceive(t, n, from(0, with(other, func(x *api.Entry) { x.Tag++ })), api.Node{}, api.ErrSeal)
	full := nodeOf(2, append([]api.Entry{x}, many(2, 59)...)...)
	expectReceive(t, full, from(0, signed(y, 12)), api.Node{}, api.ErrLong)
	expectReceive(t, full, from(0, y), api.Node{}, api.ErrSeal)
	expectReceive(t, full, from(0, other), api.Node{}, api.ErrTwo)
	expectReceive(t, full, from(0, x), knowing(full, 0, x.At), api.OK, api.Message{From: 2, To: 0, Ack: true, Entry: x})
}

func TestRestart(t *testing.T) {
	x, y, z := exampleX(), exampleY(), exampleZ()
	n := knowing(knowing(nodeOf(1, x), 0, x.At), 3, x.At, place(3, 3))
	n.Disk, n.Store = appended(t, n.Disk, n.Store, z, y)
	for _, c := range []struct {
		kept []int
		want []api.Entry
	}{
		{nil, []api.Entry{x}},
		{[]int{32}, []api.Entry{x, z, y}},
		{[]int{32, 32, 31}, []api.Entry{x, z}},
		{[]int{32, 32, 32, 31}, []api.Entry{x, z}},
		{[]int{-1, 65, 32, 0}, []api.Entry{x, z}},
		{[]int{32, 31, 32, 32}, []api.Entry{x}},
		{[]int{33, 32, 32, 32}, []api.Entry{x}},
	} {
		if m, e := book.Restart(n, c.kept); !sameNode(m, nodeOf(1, c.want...)) || e != api.OK {
			t.Errorf("Restart with %v: %v %v %d", c.kept, m.Store, m.Known, e)
		}
	}
	// A node that no function of the package has made: the head itself waits.
	odd := api.Node{Disk: api.Disk{Wait: []api.Write{{Data: wantHead(1)}}}, Store: storeOf(0, 1)}
	if m, e := book.Restart(odd, []int{32}); !sameNode(m, nodeOf(0)) || e != api.OK {
		t.Error(m, e)
	}
	if m, e := book.Restart(odd, nil); !sameNode(m, api.Node{}) || e != api.ErrDisk {
		t.Error(m, e)
	}
}
