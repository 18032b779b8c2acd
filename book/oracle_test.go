package book_test

import (
	"bytes"
	"encoding/binary"
	"math/big"
	"math/rand"
	"slices"
	"testing"

	"ullage/api"
	"ullage/book"
)

// The oracle has what the chapter describes in its plainest form, with numbers of its own.

func place(party, seq int) api.Place { return api.Place{Party: party, Seq: seq} }
func span(lo, hi int) api.Range      { return api.Range{Lo: lo, Hi: hi} }
func of(l ...api.Entry) api.Book     { return api.Book{Entries: l} }

func figure(kind, party, seq, lot, lo, hi, time int) api.Entry {
	return api.Entry{At: place(party, seq), Kind: kind, Lot: lot, Value: span(lo, hi), Time: time}
}
func scale(party, seq, lot, lo, hi, time int) api.Entry {
	return figure(api.FigScale, party, seq, lot, lo, hi, time)
}
func correct(party, seq, lo, hi, time int, of api.Place) api.Entry {
	return api.Entry{At: place(party, seq), Kind: api.FigCorrect, Value: span(lo, hi), Time: time, Of: of}
}
func accept(party, seq, time int, of api.Place) api.Entry {
	return api.Entry{At: place(party, seq), Kind: api.FigAccept, Time: time, Of: of}
}
func refuse(party, seq, time int, of api.Place) api.Entry {
	return api.Entry{At: place(party, seq), Kind: api.FigRefuse, Time: time, Of: of}
}

// exampleX, exampleY and exampleZ are the entries of the chapter's examples.
func exampleX() api.Entry { return scale(0, 0, 7, 100, 120, 5) }
func exampleY() api.Entry { return figure(api.FigDraft, 1, 0, 7, 130, 140, 6) }
func exampleZ() api.Entry { return correct(1, 1, 115, 125, 7, place(1, 0)) }

// many are so many entries of a party, one behind the other.
func many(party, count int) []api.Entry {
	var l []api.Entry
	for i := range count {
		l = append(l, scale(party, i, 1+i, i, 2*i, i))
	}
	return l
}

func sameBook(a, b api.Book) bool { return slices.Equal(a.Entries, b.Entries) }

func sameDisk(a, b api.Disk) bool { return a.Sectors == b.Sectors && slices.Equal(a.Wait, b.Wait) }

func sameStore(a, b api.Store) bool {
	return sameBook(a.Book, b.Book) && a.Area == b.Area && a.Generation == b.Generation && a.Used == b.Used
}

func sameNode(a, b api.Node) bool {
	same := a.Me == b.Me && sameDisk(a.Disk, b.Disk) && sameStore(a.Store, b.Store)
	for p := range a.Known {
		same = same && slices.Equal(a.Known[p], b.Known[p])
	}
	return same
}

// isAhead reports whether a place is ahead of another one.
func isAhead(a, b api.Place) bool { return a.Party < b.Party || a.Party == b.Party && a.Seq < b.Seq }

// wantValid reports whether an entry is valid.
func wantValid(x api.Entry) bool {
	isPlace := func(p api.Place) bool { return p.Party >= 0 && p.Party <= 3 && p.Seq >= 0 && p.Seq <= 99999 }
	hasValue := x.Value.Lo >= -1000000000000 && x.Value.Hi <= 1000000000000 && x.Value.Lo <= x.Value.Hi
	if x.Time < 0 || x.Time > 1000000 || !isPlace(x.At) || !isPlace(x.Of) {
		return false
	}
	switch {
	case x.Kind >= 1 && x.Kind <= 4:
		return x.Lot >= 1 && x.Lot <= 99999 && hasValue && x.Of == place(0, 0)
	case x.Kind == 5:
		return x.Lot == 0 && hasValue
	case x.Kind == 6 || x.Kind == 7:
		return x.Lot == 0 && x.Value == span(0, 0)
	}
	return false
}

// wantBytes are those of a valid entry.
func wantBytes(x api.Entry) []byte {
	var b bytes.Buffer
	for _, n := range []any{uint8(x.At.Party), uint32(x.At.Seq), uint8(x.Kind), uint32(x.Lot), int64(x.Value.Lo), int64(x.Value.Hi), uint32(x.Time), uint8(x.Of.Party), uint32(x.Of.Seq), x.Tag} {
		if err := binary.Write(&b, binary.BigEndian, n); err != nil {
			panic(err)
		}
	}
	return b.Bytes()
}

// wantEntry is the entry of 43 bytes, valid or not.
func wantEntry(b []byte) api.Entry {
	long := binary.BigEndian.Uint64
	short := func(b []byte) int { return int(binary.BigEndian.Uint32(b)) }
	return api.Entry{
		At: place(int(b[0]), short(b[1:])), Kind: int(b[5]), Lot: short(b[6:]),
		Value: span(int(int64(long(b[10:]))), int(int64(long(b[18:])))), Time: short(b[26:]),
		Of: place(int(b[30]), short(b[31:])), Tag: long(b[35:]),
	}
}

// wantTag is the tag of bytes under a key, by numbers of any size.
func wantTag(b []byte, key uint64) uint64 {
	number := func(text string) *big.Int {
		n, ok := new(big.Int).SetString(text, 10)
		if !ok {
			panic(text)
		}
		return n
	}
	all := new(big.Int).Lsh(big.NewInt(1), 64)
	v := new(big.Int).Xor(new(big.Int).SetUint64(key), number("14695981039346656037"))
	times := func(n *big.Int) { v.Mod(v.Mul(v, n), all) }
	fold := func(bits int64) {
		part := new(big.Int).Div(v, new(big.Int).Exp(big.NewInt(2), big.NewInt(bits), nil))
		v.Xor(v, part)
	}
	for _, c := range b {
		v.Xor(v, big.NewInt(int64(c)))
		times(number("1099511628211"))
	}
	for range 3 {
		fold(29)
		times(number("11400714819323198485"))
	}
	fold(32)
	return v.Uint64()
}

// signed is an entry with the right tag under a key.
func signed(x api.Entry, key uint64) api.Entry {
	x.Tag = wantTag(wantBytes(x)[:35], key)
	return x
}

// wantHead is the head of a generation.
func wantHead(generation int) api.Sector {
	var s api.Sector
	copy(s[:], "ullage")
	binary.BigEndian.PutUint32(s[6:], uint32(generation))
	s[30], s[31] = 9, 167
	return s
}

// wantPair has the two sectors of an entry.
func wantPair(x api.Entry) (first, second api.Sector) {
	copy(first[:30], wantBytes(x))
	copy(second[:], wantBytes(x)[30:])
	first[30], first[31], second[30], second[31] = 1, 167, 2, 167
	return first, second
}

// diskOf is a disk with an area of entries.
func diskOf(area, generation int, l ...api.Entry) api.Disk {
	var d api.Disk
	d.Sectors[area*121] = wantHead(generation)
	for i, x := range l {
		d.Sectors[area*121+1+2*i], d.Sectors[area*121+2+2*i] = wantPair(x)
	}
	return d
}

// both is a disk with the area 0 of one disk and the area 1 of another one.
func both(c, d api.Disk) api.Disk {
	copy(d.Sectors[:121], c.Sectors[:])
	return d
}

// sorted are entries by their places.
func sorted(l []api.Entry) []api.Entry {
	l = slices.Clone(l)
	for i := range l {
		for k := i; k > 0 && isAhead(l[k].At, l[k-1].At); k-- {
			l[k], l[k-1] = l[k-1], l[k]
		}
	}
	return l
}

// storeOf is the store of diskOf.
func storeOf(area, generation int, l ...api.Entry) api.Store {
	return api.Store{Book: of(sorted(l)...), Area: area, Generation: generation, Used: 1 + 2*len(l)}
}

// waits reports whether all waiting writes are of sectors of a disk.
func waits(d api.Disk) bool {
	return !slices.ContainsFunc(d.Wait, func(w api.Write) bool { return w.At < 0 || w.At >= 242 })
}

// wantCrash is a disk behind a failure of the power that keeps so many bytes of each write.
func wantCrash(d api.Disk, kept func(i int) int) api.Disk {
	if !waits(d) {
		return d
	}
	for i, w := range d.Wait {
		for k := range kept(i) {
			d.Sectors[w.At][k] = w.Data[k]
		}
	}
	d.Wait = nil
	return d
}

func wantSync(d api.Disk) api.Disk { return wantCrash(d, func(int) int { return 32 }) }

// wantGeneration is the generation of an area; 0 if it does not count.
func wantGeneration(d api.Disk, area int) int {
	g := int(binary.BigEndian.Uint32(d.Sectors[area*121][6:]))
	if g < 1 || g > 1000000000 || d.Sectors[area*121] != wantHead(g) {
		return 0
	}
	return g
}

// wantEntries are those of an area.
func wantEntries(d api.Disk, area int) []api.Entry {
	var l []api.Entry
	for i := range 60 {
		first, second := d.Sectors[area*121+1+2*i], d.Sectors[area*121+2+2*i]
		x := wantEntry(append(slices.Clone(first[:30]), second[:13]...))
		if !wantValid(x) {
			break
		}
		if a, b := wantPair(x); a != first || b != second {
			break
		}
		l = append(l, x)
	}
	return l
}

// hasTwo reports whether two entries are of one place.
func hasTwo(l []api.Entry) bool {
	for i, x := range l {
		for _, y := range l[i+1:] {
			if x.At == y.At {
				return true
			}
		}
	}
	return false
}

// wantOpen is what a disk has.
func wantOpen(d api.Disk) (api.Disk, api.Store, api.Errno) {
	if !waits(d) {
		return api.Disk{}, api.Store{}, api.ErrDisk
	}
	d = wantSync(d)
	area := 0
	if wantGeneration(d, 1) > wantGeneration(d, 0) {
		area = 1
	}
	g, l := wantGeneration(d, area), wantEntries(d, area)
	if g == 0 || hasTwo(l) {
		return api.Disk{}, api.Store{}, api.ErrDisk
	}
	return diskOf(area, g, l...), storeOf(area, g, l...), api.OK
}

// isStoreOf reports whether a store is that of a disk, point by point.
func isStoreOf(m api.Store, d api.Disk) bool {
	if !waits(d) || m.Area < 0 || m.Area > 1 {
		return false
	}
	d = wantSync(d)
	l := wantEntries(d, m.Area)
	if g := wantGeneration(d, m.Area); g == 0 || g != m.Generation || hasTwo(l) || m.Used != 1+2*len(l) {
		return false
	}
	for i, s := range d.Sectors {
		if used := i >= m.Area*121 && i < m.Area*121+m.Used; !used && s != (api.Sector{}) {
			return false
		}
	}
	return slices.Equal(sorted(l), m.Book.Entries) && book.CheckBook(m.Book) == api.OK
}

func expectOpen(t *testing.T, d api.Disk) {
	t.Helper()
	wantD, wantM, wantE := wantOpen(d)
	got, m, e := book.Open(d)
	if !sameDisk(got, wantD) || !sameStore(m, wantM) || e != wantE {
		t.Errorf("Open: %v %d, want %v %d (the right disk: %v)", m, e, wantM, wantE, sameDisk(got, wantD))
	}
	if e == api.OK && !isStoreOf(m, got) {
		t.Errorf("Open: %v is not the store of its disk", m)
	}
}

// randomEntry is a valid entry with small numbers, so that entries meet.
func randomEntry(r *rand.Rand, at api.Place) api.Entry {
	x := api.Entry{At: at, Kind: 1 + r.Intn(7), Time: r.Intn(6), Of: place(r.Intn(4), r.Intn(5))}
	if r.Intn(2) == 0 { // often of the party's own entries
		x.Of.Party = at.Party
	}
	if x.Kind < 6 {
		x.Value.Lo = r.Intn(9) - 3
		x.Value.Hi = x.Value.Lo + r.Intn(5)
	}
	if x.Kind < 5 {
		x.Lot, x.Of = 1+r.Intn(2), api.Place{}
	}
	return x
}

// randomBook has up to so many entries.
func randomBook(r *rand.Rand, most int) api.Book {
	var b api.Book
	for party := range 4 {
		for seq := range 5 {
			if len(b.Entries) < most && r.Intn(2) == 0 {
				b.Entries = append(b.Entries, randomEntry(r, place(party, seq)))
			}
		}
	}
	return b
}

// shuffled are entries in some order.
func shuffled(r *rand.Rand, l []api.Entry) []api.Entry {
	l = slices.Clone(l)
	r.Shuffle(len(l), func(i, k int) { l[i], l[k] = l[k], l[i] })
	return l
}

// randomDisk has areas that count or not, some bytes that are wrong, and waiting writes.
func randomDisk(r *rand.Rand) api.Disk {
	areas := [2]api.Disk{}
	for a := range areas {
		l := shuffled(r, randomBook(r, r.Intn(12)).Entries)
		if r.Intn(8) == 0 && len(l) > 0 {
			l = append(l, l[r.Intn(len(l))])
		}
		areas[a] = diskOf(a, 1+r.Intn(3), l...)
		if r.Intn(4) == 0 {
			areas[a] = api.Disk{}
		}
		for range r.Intn(3) * r.Intn(2) {
			areas[a].Sectors[a*121+r.Intn(8)][r.Intn(32)] = byte(r.Intn(3))
		}
	}
	d := both(areas[0], areas[1])
	for range r.Intn(3) {
		w := api.Write{At: r.Intn(8) + 121*r.Intn(2), Data: wantHead(1 + r.Intn(4))}
		if r.Intn(2) == 0 {
			w.Data, _ = wantPair(randomEntry(r, place(0, r.Intn(9))))
		}
		d.Wait = append(d.Wait, w)
	}
	return d
}

func TestOpenIsTheOracle(t *testing.T) {
	r := rand.New(rand.NewSource(81))
	opened := 0
	for range 4000 {
		d := randomDisk(r)
		expectOpen(t, d)
		if _, m, e := book.Open(d); e == api.OK && len(m.Book.Entries) > 0 {
			opened++
		}
	}
	if opened < 1000 {
		t.Error("too few cases:", opened)
	}
}

// TestStoresAreTheOracle: which stores are those of a disk, told by Append and Pack.
func TestStoresAreTheOracle(t *testing.T) {
	r := rand.New(rand.NewSource(82))
	seen := map[bool]int{}
	for range 6000 {
		d := randomDisk(r)
		if r.Intn(3) > 0 {
			d = both(diskOf(0, 1+r.Intn(2), shuffled(r, randomBook(r, 9).Entries)...), api.Disk{})
		}
		_, m, _ := wantOpen(d)
		if r.Intn(4) == 0 {
			d.Sectors[r.Intn(242)][r.Intn(32)] = byte(r.Intn(2))
		}
		switch r.Intn(12) {
		case 0:
			m.Area = r.Intn(4) - 1
		case 1:
			m.Generation++
		case 2:
			m.Used += 2 * (r.Intn(3) - 1)
		case 3:
			m.Book.Entries = shuffled(r, m.Book.Entries)
		case 4:
			m.Book.Entries = m.Book.Entries[:len(m.Book.Entries)/2]
		}
		is := isStoreOf(m, d)
		seen[is]++
		x := scale(3, 99, 1, 0, 0, 0)
		if _, _, e := book.Append(d, m, x); (e == api.OK) != is || !is && e != api.ErrDisk {
			t.Errorf("Append to %v: %d, want %v", m, e, is)
		}
		if _, _, e := book.Pack(d, m); (e == api.OK) != is || !is && e != api.ErrDisk {
			t.Errorf("Pack of %v: %d, want %v", m, e, is)
		}
	}
	if min(seen[true], seen[false]) < 1000 {
		t.Error("too few cases:", seen)
	}
}

// wantLater reports whether an entry is later than another one.
func wantLater(x, y api.Entry) bool {
	return x.Time > y.Time || x.Time == y.Time && isAhead(y.At, x.At)
}

// wantLatest is the latest of the entries that suit, if one does.
func wantLatest(b api.Book, suits func(x api.Entry) bool) (api.Entry, bool) {
	for _, x := range b.Entries {
		beaten := slices.ContainsFunc(b.Entries, func(y api.Entry) bool { return suits(y) && wantLater(y, x) })
		if suits(x) && !beaten {
			return x, true
		}
	}
	return api.Entry{}, false
}

// entryAt is the entry of a place.
func entryAt(b api.Book, at api.Place) (api.Entry, bool) {
	for _, x := range b.Entries {
		if x.At == at {
			return x, true
		}
	}
	return api.Entry{}, false
}

// wantHeir is the heir of an original or of a FigCorrect.
func wantHeir(b api.Book, x api.Entry) api.Entry {
	next, ok := wantLatest(b, func(y api.Entry) bool {
		return y.Kind == 5 && y.Of == x.At && y.At.Party == x.At.Party && wantLater(y, x)
	})
	if !ok {
		return x
	}
	return wantHeir(b, next)
}

// wantLedger has the figures of a book.
func wantLedger(b api.Book) []api.Figure {
	var l []api.Figure
	for _, x := range b.Entries {
		if x.Kind <= 4 {
			h := wantHeir(b, x)
			l = append(l, api.Figure{Kind: x.Kind, Lot: x.Lot, At: x.At, Heir: h.At, Value: h.Value})
		}
	}
	return l
}

// wantAgreed goes through all numbers that are near.
func wantAgreed(b api.Book, lot int) (api.Range, api.Errno) {
	var l []api.Range
	for _, f := range wantLedger(b) {
		if f.Lot == lot && f.Kind != 4 {
			l = append(l, f.Value)
		}
	}
	if len(l) == 0 {
		return api.Range{}, api.ErrNone
	}
	var in []int
	for n := -20; n <= 20; n++ {
		if !slices.ContainsFunc(l, func(v api.Range) bool { return n < v.Lo || n > v.Hi }) {
			in = append(in, n)
		}
	}
	if len(in) == 0 {
		return api.Range{}, api.ErrDispute
	}
	return span(in[0], in[len(in)-1]), api.OK
}

// wantDisputes goes through all lots and all places.
func wantDisputes(b api.Book) []api.Dispute {
	var l []api.Dispute
	figures := wantLedger(b)
	for lot := range 10 {
		for i, f := range figures {
			for _, g := range figures[i+1:] {
				meet := max(f.Value.Lo, g.Value.Lo) <= min(f.Value.Hi, g.Value.Hi)
				if f.Lot == lot && g.Lot == lot && f.Kind != 4 && g.Kind != 4 && !meet {
					l = append(l, api.Dispute{Lot: lot, A: f.At, B: g.At})
				}
			}
		}
	}
	return l
}

// wantBinds reports whether a party is bound by an original.
func wantBinds(b api.Book, party int, x api.Entry) bool {
	h := wantHeir(b, x)
	last, _ := wantLatest(b, func(y api.Entry) bool { return y.At.Party == party && y.Kind >= 6 && y.Of == h.At })
	return x.At.Party == party || last.Kind == 6
}

func TestLedgersAreTheOracle(t *testing.T) {
	r := rand.New(rand.NewSource(83))
	seen := map[string]int{}
	for range 8000 {
		b := randomBook(r, 20)
		l, e := book.Ledger(b)
		if want := wantLedger(b); !slices.Equal(l, want) || e != api.OK {
			t.Errorf("Ledger of %v: %v %d, want %v", b, l, e, want)
		}
		for _, f := range l {
			if f.Heir != f.At {
				seen["heir"]++
			}
		}
		d, e := book.Disputes(b)
		if want := wantDisputes(b); !slices.Equal(d, want) || e != api.OK {
			t.Errorf("Disputes of %v: %v %d, want %v", b, d, e, want)
		}
		for lot := range 4 {
			got, e := book.Agreed(b, lot)
			if want, f := wantAgreed(b, lot); got != want || e != f {
				t.Errorf("Agreed of %v, %d: %v %d, want %v %d", b, lot, got, e, want, f)
			}
			seen[map[api.Errno]string{api.OK: "agreed", api.ErrNone: "none", api.ErrDispute: "dispute"}[e]]++
		}
		for k := range 24 {
			expectOriginal(t, b, place(k/6, k%6), seen)
		}
	}
	for _, what := range []string{"heir", "agreed", "none", "dispute", "bound", "free"} {
		if seen[what] < 500 {
			t.Error("too few cases:", what, seen[what])
		}
	}
}

// expectOriginal asks for what the oracle tells of a place.
func expectOriginal(t *testing.T, b api.Book, at api.Place, seen map[string]int) {
	t.Helper()
	x, ok := entryAt(b, at)
	var heir api.Place
	want := api.ErrNone
	if ok && x.Kind <= 4 {
		heir, want = wantHeir(b, x).At, api.OK
	}
	if got, e := book.Heir(b, at); got != heir || e != want {
		t.Errorf("Heir of %v, %v: %v %d, want %v %d", b, at, got, e, heir, want)
	}
	for party := range 4 {
		is, e := book.Binds(b, party, at)
		bound := want == api.OK && wantBinds(b, party, x)
		if is != bound || e != want {
			t.Errorf("Binds of %v, %d, %v: %v %d, want %v %d", b, party, at, is, e, bound, want)
		}
		if is && party != at.Party {
			seen["bound"]++
		} else if want == api.OK && !is {
			seen["free"]++
		}
	}
}
