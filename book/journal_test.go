package book_test

import (
	"slices"
	"testing"

	"ullage/api"
	"ullage/book"
)

// appended puts entries into a journal, and must not fail.
func appended(t *testing.T, d api.Disk, m api.Store, l ...api.Entry) (api.Disk, api.Store) {
	t.Helper()
	for _, x := range l {
		var e api.Errno
		if d, m, e = book.Append(d, m, x); e != api.OK {
			t.Fatalf("Append of %v: %d", x, e)
		}
	}
	return d, m
}

func TestAppend(t *testing.T) {
	x, y, z := exampleX(), exampleY(), exampleZ()
	d, m := book.New()
	d, m = appended(t, d, m, z, x, y)
	if !sameStore(m, storeOf(0, 1, x, y, z)) || len(d.Wait) != 6 || d.Sectors != diskOf(0, 1).Sectors {
		t.Fatal(m, d.Wait)
	}
	for i, e := range []api.Entry{z, x, y} {
		first, second := wantPair(e)
		want := []api.Write{{At: 1 + 2*i, Data: first}, {At: 2 + 2*i, Data: second}}
		if !slices.Equal(d.Wait[2*i:2*i+2], want) {
			t.Error(i, d.Wait)
		}
	}
	if got := book.Sync(d); !sameDisk(got, diskOf(0, 1, z, x, y)) {
		t.Error(got)
	}
	// An entry that the book has changes nothing, whether writes wait or not.
	for _, c := range []api.Disk{d, book.Sync(d)} {
		got, n, e := book.Append(c, m, x)
		if !sameDisk(got, c) || !sameStore(n, m) || e != api.OK {
			t.Error(n, e)
		}
	}
	// The other area, behind what is firm.
	d, m, e := book.Append(diskOf(1, 9, y), storeOf(1, 9, y), x)
	first, second := wantPair(x)
	if !sameStore(m, storeOf(1, 9, y, x)) || !slices.Equal(d.Wait, []api.Write{{At: 124, Data: first}, {At: 125, Data: second}}) || e != api.OK {
		t.Error(m, d.Wait, e)
	}
}

func TestAppendToTheEnd(t *testing.T) {
	l := many(3, 60)
	for area := range 2 {
		d, m := appended(t, diskOf(area, 4), storeOf(area, 4), l...)
		if m.Used != 121 || len(d.Wait) != 120 || d.Wait[119].At != area*121+120 || !sameDisk(book.Sync(d), diskOf(area, 4, l...)) {
			t.Error(m, len(d.Wait))
		}
		for _, c := range []api.Disk{d, book.Sync(d)} {
			expectAppendError(t, c, m, exampleX(), api.ErrLong)
			expectAppendError(t, c, m, with(l[9], func(x *api.Entry) { x.Lot++ }), api.ErrTwo)
			expectAppendError(t, c, m, with(l[9], func(x *api.Entry) { x.Lot = 0 }), api.ErrEntry)
			if got, n, e := book.Append(c, m, l[9]); !sameDisk(got, c) || !sameStore(n, m) || e != api.OK {
				t.Error(n, e)
			}
		}
	}
}

func expectAppendError(t *testing.T, d api.Disk, m api.Store, x api.Entry, e api.Errno) {
	t.Helper()
	if c, n, f := book.Append(d, m, x); !sameDisk(c, api.Disk{}) || !sameStore(n, api.Store{}) || f != e {
		t.Errorf("Append of %v to %v: %v %d, want %d", x, m, n, f, e)
	}
}

// wrongStores are not those of the disk of the example's entries.
func wrongStores() []api.Store {
	x, y, z := exampleX(), exampleY(), exampleZ()
	right := storeOf(0, 1, x, y)
	change := func(do func(m *api.Store)) api.Store {
		m := right
		do(&m)
		return m
	}
	l := []api.Store{
		{}, storeOf(0, 1, x), storeOf(0, 1, x, y, z), storeOf(0, 1, x, z),
		storeOf(0, 1, x, with(y, func(x *api.Entry) { x.Tag = 1 })),
		change(func(m *api.Store) { m.Book = of(y, x) }),
		change(func(m *api.Store) { m.Book = of(x, x, y) }),
		change(func(m *api.Store) { m.Book = api.Book{} }),
	}
	for _, n := range []int{-1, 1, 2} {
		l = append(l, change(func(m *api.Store) { m.Area = n }), change(func(m *api.Store) { m.Used += n }), change(func(m *api.Store) { m.Generation += n }))
	}
	return l
}

func TestNoStoreOfADisk(t *testing.T) {
	x, y := exampleX(), exampleY()
	d := diskOf(0, 1, y, x)
	if _, _, e := book.Append(d, storeOf(0, 1, x, y), exampleZ()); e != api.OK {
		t.Error(e)
	}
	expect := func(d api.Disk, m api.Store) {
		t.Helper()
		if isStoreOf(m, d) {
			t.Errorf("%v is that of the disk", m)
		}
		// So it is with an entry that may not be, or that the book has.
		for _, z := range []api.Entry{exampleZ(), x, {}, with(x, func(x *api.Entry) { x.Lot++ })} {
			expectAppendError(t, d, m, z, api.ErrDisk)
		}
		if l, n, e := book.Pack(d, m); len(l) > 0 || !sameStore(n, api.Store{}) || e != api.ErrDisk {
			t.Errorf("Pack of %v: %v %d", m, n, e)
		}
	}
	for _, m := range wrongStores() {
		expect(d, m)
		expect(book.Sync(d), m)
	}
	// Sectors that should be blank are not, one at a time.
	for i := 5; i < 242; i++ {
		c := d
		c.Sectors[i][i%32] = 1
		expect(c, storeOf(0, 1, x, y))
	}
	c := d
	c.Wait = []api.Write{{At: 1}}
	expect(c, storeOf(0, 1, x, y))
	c.Wait = []api.Write{{At: 242}}
	expect(c, storeOf(0, 1, x, y))
	expect(api.Disk{}, api.Store{Used: 1})
	expect(diskOf(0, 0), storeOf(0, 0))
	expect(diskOf(0, 1, x, x), storeOf(0, 1, x, x))
	expect(diskOf(0, 1, x, x), storeOf(0, 1, x))
	expect(both(diskOf(0, 1, x), diskOf(1, 1, x)), storeOf(0, 1, x))
	expect(both(diskOf(0, 1, x), diskOf(1, 2, x)), storeOf(0, 1, x))
	// What waits counts: then these are right.
	c = both(diskOf(0, 1, x, y), diskOf(1, 2, x))
	for i := range 121 {
		c.Wait = append(c.Wait, api.Write{At: i})
	}
	expect(c, storeOf(0, 1, x, y))
	if _, m, e := book.Append(c, storeOf(1, 2, x), y); !sameStore(m, storeOf(1, 2, x, y)) || e != api.OK {
		t.Error(m, e)
	}
}

// wantPack has the disks of a Pack into an area, step by step.
func wantPack(d api.Disk, m api.Store, to int) []api.Disk {
	one := wantSync(d)
	two := one
	for i, x := range m.Book.Entries {
		first, second := wantPair(x)
		two.Wait = append(two.Wait, api.Write{At: to*121 + 1 + 2*i, Data: first}, api.Write{At: to*121 + 2 + 2*i, Data: second})
	}
	three := wantSync(two)
	four := three
	four.Wait = []api.Write{{At: to * 121, Data: wantHead(m.Generation + 1)}}
	five := wantSync(four)
	six := five
	for i := range 121 {
		six.Wait = append(six.Wait, api.Write{At: m.Area*121 + i})
	}
	return []api.Disk{one, two, three, four, five, six, wantSync(six)}
}

func TestPack(t *testing.T) {
	x, y, z := exampleX(), exampleY(), exampleZ()
	for _, l := range [][]api.Entry{nil, {x}, {z, x, y}, many(2, 60)} {
		for area := range 2 {
			d, m := appended(t, diskOf(area, 7), storeOf(area, 7), l...)
			for _, d := range []api.Disk{d, book.Sync(d)} {
				disks, n, e := book.Pack(d, m)
				if e != api.OK || !slices.EqualFunc(disks, wantPack(d, m, 1-area), sameDisk) {
					t.Errorf("Pack of %v: %d disks, %d", m, len(disks), e)
					continue
				}
				if !sameStore(n, storeOf(1-area, 8, l...)) || !sameDisk(disks[6], diskOf(1-area, 8, sorted(l)...)) || !isStoreOf(n, disks[6]) {
					t.Errorf("Pack of %v: %v", m, n)
				}
			}
		}
	}
	d, m := appended(t, diskOf(0, 999999999), storeOf(0, 999999999), x)
	l, m, e := book.Pack(d, m)
	if e != api.OK || m.Generation != 1000000000 {
		t.Fatal(m, e)
	}
	if l, n, e := book.Pack(l[6], m); len(l) > 0 || !sameStore(n, api.Store{}) || e != api.ErrDisk {
		t.Error(n, e)
	}
	if _, n, e := book.Append(l[6], m, y); !sameStore(n, storeOf(1, 1000000000, x, y)) || e != api.OK {
		t.Error(n, e)
	}
}

// TestExamplesOfDisks are those of the chapter.
func TestExamplesOfDisks(t *testing.T) {
	x := exampleX()
	d, m := book.New()
	d, m = appended(t, d, m, x)
	if len(d.Wait) != 2 || d.Wait[0].At != 1 || d.Wait[1].At != 2 {
		t.Error(d.Wait)
	}
	if c, n, e := book.Open(book.Crash(d, []int{32, 31})); !sameDisk(c, diskOf(0, 1)) || !sameStore(n, storeOf(0, 1)) || e != api.OK {
		t.Error(n, e)
	}
	if c, n, e := book.Open(book.Crash(d, []int{32, 32})); !sameDisk(c, diskOf(0, 1, x)) || !sameStore(n, m) || e != api.OK {
		t.Error(n, e)
	}
	l, _, _ := book.Pack(d, m)
	var many []int
	for _, c := range l {
		many = append(many, len(c.Wait))
	}
	if !slices.Equal(many, []int{0, 2, 0, 1, 0, 121, 0}) {
		t.Error(many)
	}
}
