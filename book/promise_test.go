package book_test

import (
	"bytes"
	"math/rand"
	"slices"
	"testing"

	"ullage/api"
	"ullage/book"
)

// TestBytesComeBack is P8.2.
func TestBytesComeBack(t *testing.T) {
	r := rand.New(rand.NewSource(86))
	decoded := 0
	for range 5000 {
		x := randomEntry(r, place(r.Intn(4), r.Intn(100000)))
		x.Tag = r.Uint64()
		b, e := book.Encode(x)
		y, f := book.Decode(b)
		if e != api.OK || f != api.OK || y != x {
			t.Error(x, b, y, e, f)
		}
		// Of other bytes that are those of an entry, the same.
		b[r.Intn(43)] ^= 1 << r.Intn(8)
		if y, e := book.Decode(b); e == api.OK {
			decoded++
			if c, e := book.Encode(y); !bytes.Equal(c, b) || e != api.OK {
				t.Error(b, y, c, e)
			}
		}
		key := r.Uint64()
		y, e = book.Sign(x, key)
		if f := book.Verify(y, key); e != api.OK || f != api.OK {
			t.Error(x, y, e, f)
		}
	}
	if decoded < 1000 {
		t.Error("too few cases:", decoded)
	}
}

// TestJoined is P8.3.
func TestJoined(t *testing.T) {
	r := rand.New(rand.NewSource(87))
	seen := map[api.Errno]int{}
	for range 3000 {
		all := of(many(0, 30)...)
		if r.Intn(2) == 0 {
			all = of(append(all.Entries, many(1, 45)...)...)
		}
		part := func() api.Book {
			l := slices.DeleteFunc(slices.Clone(all.Entries), func(api.Entry) bool { return r.Intn(3) == 0 })
			if r.Intn(8) == 0 && len(l) > 0 {
				l[r.Intn(len(l))].Tag = 1
			}
			return of(l[:min(60, len(l))]...)
		}
		a, b, c := part(), part(), part()
		ab, e := book.Join(a, b)
		ba, f := book.Join(b, a)
		seen[e]++
		if !sameBook(ab, ba) || e != f {
			t.Error(a, b, ab, ba, e, f)
		}
		if aa, e := book.Join(a, a); !sameBook(aa, a) || e != api.OK {
			t.Error(a, aa, e)
		}
		bc, f := book.Join(b, c)
		if e == api.OK && f == api.OK {
			first, e := book.Join(ab, c)
			second, f := book.Join(a, bc)
			if !sameBook(first, second) || e != f {
				t.Error(a, b, c, first, second, e, f)
			}
		}
		for _, x := range c.Entries[:min(3, len(c.Entries))] {
			added, e := book.Add(a, x)
			joined, f := book.Join(a, of(x))
			if !sameBook(added, joined) || e != f {
				t.Error(a, x, added, joined, e, f)
			}
		}
	}
	if min(seen[api.OK], seen[api.ErrTwo], seen[api.ErrLong]) < 200 {
		t.Error("too few cases:", seen)
	}
}

// past is what a journal must have: the entries that were there at the last Sync, Pack or Open, and those that were appended since then.
type past struct{ firm, since []api.Entry }

// settle makes all entries firm.
func (p *past) settle() { p.firm, p.since = slices.Concat(p.firm, p.since), nil }

// keptBy is how many of the entries appended since are kept by a crash: both sectors of each one are whole.
func (p *past) keptBy(kept []int) int {
	for i := range p.since {
		for k := range 2 {
			if pick := 2*i + k; len(kept) == 0 || ((kept[pick%len(kept)]%33)+33)%33 != 32 {
				return i
			}
		}
	}
	return len(p.since)
}

// expectCrash opens a disk behind a crash, and expects what was firm and a beginning of what came since.
func (p *past) expectCrash(t *testing.T, d api.Disk, kept []int) (api.Disk, api.Store) {
	t.Helper()
	d, m, e := book.Open(book.Crash(d, kept))
	n := p.keptBy(kept)
	if want := sorted(slices.Concat(p.firm, p.since[:n])); e != api.OK || !slices.Equal(m.Book.Entries, want) {
		t.Fatalf("behind a crash with %v: %v %d, want %v", kept, m, e, want)
	}
	if !isStoreOf(m, d) {
		t.Fatalf("behind a crash with %v: %v is not the store", kept, m)
	}
	p.firm, p.since = slices.Concat(p.firm, p.since[:n]), nil
	return d, m
}

// someKept are numbers for a crash: often whole writes.
func someKept(r *rand.Rand) []int {
	var l []int
	for range r.Intn(7) {
		l = append(l, 32)
		if r.Intn(3) == 0 {
			l[len(l)-1] = r.Intn(100) - 33
		}
	}
	return l
}

// TestPower is P8.4, of journals that are changed in any way.
func TestPower(t *testing.T) {
	r := rand.New(rand.NewSource(88))
	lost, kept := 0, 0
	for range 150 {
		d, m := book.New()
		p := &past{}
		for range 40 {
			switch r.Intn(10) {
			case 0:
				d = book.Sync(d)
				p.settle()
			case 1:
				// An Open of the disk as it is makes all that waits firm.
				var e api.Errno
				if d, m, e = book.Open(d); e != api.OK {
					t.Fatal(e)
				}
				p.settle()
			case 2:
				l, n, e := book.Pack(d, m)
				if e != api.OK {
					t.Fatal(e)
				}
				p.settle()
				d, m = l[6], n
			case 3:
				before := len(p.since)
				ahead := len(p.firm)
				d, m = p.expectCrash(t, d, someKept(r))
				kept += len(p.firm) - ahead
				lost += before - (len(p.firm) - ahead)
			default:
				x := randomEntry(r, place(r.Intn(4), r.Intn(12)))
				c, n, e := book.Append(d, m, x)
				if _, has := entryAt(m.Book, x.At); has {
					if e != api.OK && e != api.ErrTwo {
						t.Fatal(e)
					}
					continue
				}
				if e != api.OK {
					t.Fatal(e)
				}
				d, m = c, n
				p.since = append(p.since, x)
			}
			other := *p
			other.expectCrash(t, d, someKept(r))
		}
	}
	if min(lost, kept) < 100 {
		t.Error("too few cases:", lost, kept)
	}
}

// TestEachTear is P8.4, of each way in which one write is torn, and of many in which several are.
func TestEachTear(t *testing.T) {
	x, y, z := exampleX(), exampleY(), exampleZ()
	start := func() (api.Disk, api.Store) {
		l, m, e := book.Pack(diskOf(0, 6, z), storeOf(0, 6, z))
		if e != api.OK {
			t.Fatal(e)
		}
		return l[6], m
	}
	d, m := start()
	d, _ = appended(t, d, m, x)
	for i := range 33 {
		for k := range 33 {
			p := &past{firm: []api.Entry{z}, since: []api.Entry{x}}
			p.expectCrash(t, d, []int{i, k})
		}
	}
	d, m = start()
	d, _ = appended(t, d, m, y, x)
	some := []int{0, 1, 13, 30, 31, 32}
	for i := range 6 * 6 * 6 * 6 {
		p := &past{firm: []api.Entry{z}, since: []api.Entry{y, x}}
		p.expectCrash(t, d, []int{some[i%6], some[i/6%6], some[i/36%6], some[i/216]})
	}
}

// TestPackKeepsAll is P8.4, of the disks on the way of a Pack: a crash of each leaves the whole book, and they can be packed again.
func TestPackKeepsAll(t *testing.T) {
	r := rand.New(rand.NewSource(89))
	for _, l := range [][]api.Entry{nil, {exampleX()}, {exampleZ(), exampleX(), exampleY()}, many(2, 60)} {
		for area := range 2 {
			d, m := appended(t, diskOf(area, 3), storeOf(area, 3), l...)
			disks, _, e := book.Pack(d, m)
			if e != api.OK {
				t.Fatal(e)
			}
			for _, c := range disks {
				var kept [][]int
				for k := range 33 {
					kept = append(kept, []int{k}, []int{32, k})
				}
				for range 20 {
					kept = append(kept, someKept(r))
				}
				for _, k := range kept {
					p := &past{firm: l}
					d, m := p.expectCrash(t, c, k)
					if again, _, e := book.Pack(d, m); len(again) != 7 || e != api.OK {
						t.Error(m, e)
					}
				}
			}
		}
	}
}

// net has nodes, all messages that were ever offered or answered, and what was acknowledged.
type net struct {
	nodes    [4]api.Node
	messages []api.Message
	firm     [4][]api.Entry // whose acknowledgement the node has returned
}

func newNet(t *testing.T) *net {
	n := &net{}
	for me := range n.nodes {
		var e api.Errno
		if n.nodes[me], e = book.NewNode(me); e != api.OK {
			t.Fatal(e)
		}
	}
	return n
}

// offer offers to another party.
func (n *net) offer(t *testing.T, me, to int) []api.Message {
	m, l, e := book.Offer(n.nodes[me], to)
	if e != api.OK {
		t.Fatal(e)
	}
	n.nodes[me] = m
	n.messages = append(n.messages, l...)
	return l
}

// receive delivers a message.
func (n *net) receive(t *testing.T, m api.Message) api.Errno {
	got, l, e := book.Receive(n.nodes[m.To], m, exampleKeys())
	switch e {
	case api.OK:
		n.nodes[m.To] = got
		n.messages = append(n.messages, l...)
		for _, a := range l {
			n.firm[m.To] = append(n.firm[m.To], a.Entry)
		}
	case api.ErrLong:
	default:
		t.Fatalf("Receive of %v: %d", m, e)
	}
	return e
}

// expectFirm expects each acknowledged entry in the book of the node.
func (n *net) expectFirm(t *testing.T) {
	t.Helper()
	for me, l := range n.firm {
		for _, x := range l {
			if y, ok := entryAt(n.nodes[me].Store.Book, x.At); !ok || y != x {
				t.Fatalf("%d has lost %v", me, x)
			}
		}
	}
}

// act does something at random. It reports whether a book was full.
func (n *net) act(t *testing.T, r *rand.Rand) bool {
	me := r.Intn(4)
	switch what := r.Intn(20); {
	case what < 4:
		x := randomEntry(r, place(0, 0))
		x.Of.Party = r.Intn(4)
		if x.Kind < 5 {
			x.Of = api.Place{}
		}
		m, _, e := book.Note(n.nodes[me], x, exampleKeys()[me])
		if e == api.ErrLong {
			return true
		}
		if e != api.OK {
			t.Fatal(x, e)
		}
		n.nodes[me] = m
	case what < 8:
		n.offer(t, me, (me+1+r.Intn(3))%4)
	case what < 9:
		m, e := book.Restart(n.nodes[me], someKept(r))
		if e != api.OK {
			t.Fatal(e)
		}
		n.nodes[me] = m
	case len(n.messages) > 0:
		return n.receive(t, n.messages[r.Intn(len(n.messages))]) == api.ErrLong
	}
	return false
}

// TestAcknowledged is P8.5.
func TestAcknowledged(t *testing.T) {
	r := rand.New(rand.NewSource(90))
	quiet, full := 0, 0
	for i := range 60 {
		n := newNet(t)
		wasFull := false
		for range 100 + 300*(i%4/3) {
			wasFull = n.act(t, r) || wasFull
			n.expectFirm(t)
		}
		if wasFull {
			full++
			continue
		}
		// All that each one offers is received, in some order.
		for range 4 {
			for me := range 4 {
				for to := range 4 {
					if me == to {
						continue
					}
					l := n.offer(t, me, to)
					r.Shuffle(len(l), func(i, k int) { l[i], l[k] = l[k], l[i] })
					for _, m := range l {
						wasFull = n.receive(t, m) == api.ErrLong || wasFull
					}
				}
			}
		}
		n.expectFirm(t)
		if wasFull {
			full++
			continue
		}
		quiet++
		for me := range 4 {
			if !sameBook(n.nodes[me].Store.Book, n.nodes[0].Store.Book) {
				t.Fatal(me, n.nodes[me].Store.Book, n.nodes[0].Store.Book)
			}
		}
	}
	if min(quiet, full) < 10 {
		t.Error("too few cases:", quiet, full)
	}
}

// TestOneNeedsTheOther is P8.5, of an exchange without accidents: what was acknowledged is not offered again, until a restart forgets that.
func TestOneNeedsTheOther(t *testing.T) {
	n := newNet(t)
	var e api.Errno
	for _, x := range many(0, 5) {
		if n.nodes[0], _, e = book.Note(n.nodes[0], x, 11); e != api.OK {
			t.Fatal(e)
		}
	}
	expect := func(want int) {
		t.Helper()
		l := n.offer(t, 0, 1)
		if len(l) != want {
			t.Fatal(len(l), want)
		}
	}
	expect(5)
	for i := range 5 {
		n.receive(t, n.messages[i])
		n.receive(t, n.messages[5+i])
		expect(4 - i)
		n.messages = n.messages[:6+i]
	}
	if l := n.offer(t, 1, 0); len(l) != 0 {
		t.Error(l)
	}
	if l := n.offer(t, 1, 2); len(l) != 5 {
		t.Error(l)
	}
	if n.nodes[0], e = book.Restart(n.nodes[0], nil); e != api.OK {
		t.Fatal(e)
	}
	expect(5)
}

// TestOneLedger is P8.6: the order in which entries came, and the way, change nothing.
func TestOneLedger(t *testing.T) {
	r := rand.New(rand.NewSource(91))
	for range 150 {
		b := randomBook(r, 20)
		d, m := book.New()
		d, m = appended(t, d, m, shuffled(r, b.Entries)...)
		_, opened, _ := book.Open(d)
		_, packed, _ := book.Pack(d, m)
		var added, joined api.Book
		for _, x := range shuffled(r, b.Entries) {
			added, _ = book.Add(added, x)
			joined, _ = book.Join(of(x), joined)
		}
		for _, c := range []api.Book{m.Book, opened.Book, packed.Book, added, joined} {
			if !sameBook(b, c) {
				t.Fatal(b, c)
			}
			l, _ := book.Ledger(c)
			disputes, _ := book.Disputes(c)
			if !slices.Equal(l, wantLedger(b)) || !slices.Equal(disputes, wantDisputes(b)) {
				t.Error(b, l, disputes)
			}
		}
	}
}

// figuresOf are the figures of a lot that tell its mass.
func figuresOf(b api.Book, lot int) []api.Figure {
	l, _ := book.Ledger(b)
	return slices.DeleteFunc(l, func(f api.Figure) bool { return f.Lot != lot || f.Kind == api.FigLoss })
}

// TestDisputesAndAgreement is P8.7.
func TestDisputesAndAgreement(t *testing.T) {
	r := rand.New(rand.NewSource(92))
	seen := map[api.Errno]int{}
	for range 4000 {
		b := randomBook(r, 20)
		disputes, _ := book.Disputes(b)
		for lot := 1; lot <= 3; lot++ {
			all, e := book.Agreed(b, lot)
			seen[e]++
			l := figuresOf(b, lot)
			disputed := slices.ContainsFunc(disputes, func(d api.Dispute) bool { return d.Lot == lot })
			if (e == api.ErrDispute) != disputed || (e == api.ErrNone) != (len(l) == 0) {
				t.Error(b, lot, e, disputes)
			}
			for n := -20; n <= 20; n++ {
				in := !slices.ContainsFunc(l, func(f api.Figure) bool { return n < f.Value.Lo || n > f.Value.Hi })
				if told := e == api.OK && all.Lo <= n && n <= all.Hi; len(l) > 0 && told != in {
					t.Error(b, lot, n, all, e)
				}
			}
		}
	}
	if min(seen[api.OK], seen[api.ErrDispute], seen[api.ErrNone]) < 1000 {
		t.Error("too few cases:", seen)
	}
}

// TestCorrections is P8.8.
func TestCorrections(t *testing.T) {
	r := rand.New(rand.NewSource(93))
	accepted := 0
	for range 800 {
		b := randomBook(r, 16)
		old, _ := book.Ledger(b)
		for i, f := range old {
			heir, _ := entryAt(b, f.Heir)
			for party := range 4 {
				x := correct(party, 50, 40, 41, 9, f.Heir)
				c, e := book.Add(b, x)
				now, _ := book.Ledger(c)
				want := slices.Clone(old)
				if party == f.At.Party {
					want[i].Heir, want[i].Value = x.At, x.Value
				}
				if e != api.OK || !slices.Equal(now, want) {
					t.Error(b, x, now, want)
				}
				// One that is not later than the heir changes nothing.
				early := correct(party, 50, 40, 41, heir.Time-1, f.Heir)
				if c, e := book.Add(b, early); e == api.OK {
					if now, _ := book.Ledger(c); !slices.Equal(now, old) {
						t.Error(b, early, now, old)
					}
				}
			}
			for party := range 4 {
				if is, _ := book.Binds(b, party, f.At); !is || party == f.At.Party {
					continue
				}
				accepted++
				c, _ := book.Add(b, correct(f.At.Party, 50, 40, 41, 9, f.Heir))
				expectBinds(t, c, party, f.At, false, api.OK)
				c, _ = book.Add(c, accept(party, 60, 9, place(f.At.Party, 50)))
				expectBinds(t, c, party, f.At, true, api.OK)
				c, _ = book.Add(c, refuse(party, 61, 9, place(f.At.Party, 50)))
				expectBinds(t, c, party, f.At, false, api.OK)
			}
		}
	}
	if accepted < 100 {
		t.Error("too few cases:", accepted)
	}
}
