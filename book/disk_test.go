package book_test

import (
	"math"
	"math/rand"
	"slices"
	"testing"

	"ullage/api"
	"ullage/book"
)

func TestNew(t *testing.T) {
	d, m := book.New()
	if !sameDisk(d, diskOf(0, 1)) || !sameStore(m, api.Store{Generation: 1, Used: 1}) {
		t.Error(d.Sectors[0], m)
	}
	if want := (api.Sector{'u', 'l', 'l', 'a', 'g', 'e', 0, 0, 0, 1, 30: 9, 31: 167}); d.Sectors[0] != want {
		t.Error(d.Sectors[0])
	}
}

// sectorOfAll has one byte everywhere.
func sectorOfAll(c byte) api.Sector {
	var s api.Sector
	for i := range s {
		s[i] = c
	}
	return s
}

// waiting is a disk of the byte 9 with waiting writes: the byte i at each of these sectors.
func waiting(at ...int) api.Disk {
	var d api.Disk
	for i := range d.Sectors {
		d.Sectors[i] = sectorOfAll(9)
	}
	for i, n := range at {
		d.Wait = append(d.Wait, api.Write{At: n, Data: sectorOfAll(byte(i))})
	}
	return d
}

func TestSync(t *testing.T) {
	d := waiting(0, 241, 7, 0)
	got := book.Sync(d)
	want := waiting()
	want.Sectors[0], want.Sectors[241], want.Sectors[7] = sectorOfAll(3), sectorOfAll(1), sectorOfAll(2)
	if !sameDisk(got, want) {
		t.Error(got)
	}
	if !sameDisk(book.Sync(want), want) {
		t.Error("Sync of a disk without waiting writes has changed it")
	}
	for _, odd := range []int{-1, 242, math.MinInt, math.MaxInt} {
		d := waiting(3, odd, 5)
		if got := book.Sync(d); !sameDisk(got, d) {
			t.Errorf("Sync with a write of %d: %v", odd, got)
		}
		if got := book.Crash(d, []int{32}); !sameDisk(got, d) {
			t.Errorf("Crash with a write of %d: %v", odd, got)
		}
		expectOpen(t, d)
	}
}

func TestCrash(t *testing.T) {
	d := waiting(4, 5, 4, 6, 7)
	for _, x := range []struct {
		kept, firm []int // as they are taken, and what they mean
	}{
		{nil, []int{0, 0, 0, 0, 0}},
		{[]int{}, []int{0, 0, 0, 0, 0}},
		{[]int{32}, []int{32, 32, 32, 32, 32}},
		{[]int{33}, []int{0, 0, 0, 0, 0}},
		{[]int{1, 31}, []int{1, 31, 1, 31, 1}},
		{[]int{20, 0, 10}, []int{20, 0, 10, 20, 0}},
		{[]int{5, 6, 7, 8, 9, 10, 11}, []int{5, 6, 7, 8, 9}},
		{[]int{-1, -33, -34, 65, 66}, []int{32, 0, 32, 32, 0}},
		{[]int{-32, 100}, []int{1, 1, 1, 1, 1}},
		// 2^63 is 8 modulo 33.
		{[]int{math.MaxInt, math.MinInt}, []int{7, 25, 7, 25, 7}},
	} {
		want := wantCrash(d, func(i int) int { return x.firm[i] })
		if got := book.Crash(d, x.kept); !sameDisk(got, want) || len(got.Wait) > 0 {
			t.Errorf("Crash with %v: %v", x.kept, got)
		}
	}
	// What an earlier write made firm stays where a later one of the sector is torn.
	got := book.Crash(d, []int{20, 0, 10})
	if s := got.Sectors[4]; s[9] != 2 || s[10] != 0 || s[19] != 0 || s[20] != 9 {
		t.Error(s)
	}
}

func TestOpen(t *testing.T) {
	x, y, z := exampleX(), exampleY(), exampleZ()
	for _, d := range []api.Disk{
		{},
		diskOf(0, 1), diskOf(1, 1), diskOf(0, 1000000000, x), diskOf(1, 1000000000, x, y),
		diskOf(0, 0, x), diskOf(0, 1000000001, x), diskOf(0, math.MaxUint32), diskOf(0, 0x01000000, x),
		diskOf(0, 3, z, x, y), diskOf(1, 3, y, z, x),
		diskOf(0, 3, many(2, 60)...), diskOf(1, 3, many(2, 60)...),
		diskOf(0, 1, x, y, x), diskOf(0, 1, x, x), diskOf(1, 1, x, with(x, func(x *api.Entry) { x.Lot++ })),
		// Two areas that count.
		both(diskOf(0, 1, x), diskOf(1, 2, y)), both(diskOf(0, 2, x), diskOf(1, 1, y)), both(diskOf(0, 2, x), diskOf(1, 2, y)),
		both(diskOf(0, 0, x), diskOf(1, 1, y)), both(diskOf(0, 300, x), diskOf(1, 255, y)), both(diskOf(0, 255, x), diskOf(1, 256, y)),
		// The area that is meant decides, though the other one is right.
		both(diskOf(0, 2, x, x), diskOf(1, 1, y)), both(diskOf(0, 1, y), diskOf(1, 2, x, x)), both(diskOf(0, 2, y), diskOf(1, 1, x, x)),
		// What waits is made.
		{Wait: []api.Write{{Data: wantHead(7)}}},
		{Wait: []api.Write{{At: 121, Data: wantHead(7)}, {At: 0, Data: wantHead(9)}, {At: 0}}},
	} {
		expectOpen(t, d)
	}
	if _, _, e := book.Open(api.Disk{}); e != api.ErrDisk {
		t.Error(e)
	}
	if _, m, e := book.Open(both(diskOf(0, 2, x), diskOf(1, 2, y))); !sameBook(m.Book, of(x)) || m.Area != 0 || e != api.OK {
		t.Error(m, e)
	}
	if d, m, e := book.Open(diskOf(1, 5, y, x)); !sameDisk(d, diskOf(1, 5, y, x)) || !sameStore(m, api.Store{Book: of(x, y), Area: 1, Generation: 5, Used: 5}) || e != api.OK {
		t.Error(m, e)
	}
}

// TestOpenOfOtherBytes changes each byte of an area's first sectors.
func TestOpenOfOtherBytes(t *testing.T) {
	d := diskOf(1, 0x01020304, exampleX(), exampleZ(), exampleY())
	if _, m, e := book.Open(d); len(m.Book.Entries) != 3 || m.Generation != 0x01020304 || e != api.OK {
		t.Error(m, e)
	}
	for i := range 8 {
		for k := range 32 {
			for _, c := range []byte{0, 1, 2, 7, 9, 255} {
				d := d
				d.Sectors[121+i][k] = c
				expectOpen(t, d)
			}
		}
	}
}

// TestOpenClears: behind the entries, and in the other area, all is blank.
func TestOpenClears(t *testing.T) {
	r := rand.New(rand.NewSource(85))
	for range 200 {
		l := many(1, r.Intn(10))
		d := diskOf(r.Intn(2), 5, l...)
		clean := d
		for range 20 {
			d.Sectors[r.Intn(242)][31] ^= 8
		}
		_, m, e := book.Open(d)
		wantD, wantM, wantE := wantOpen(d)
		if !sameStore(m, wantM) || e != wantE {
			t.Fatal(m, e)
		}
		if got, _, _ := book.Open(d); !sameDisk(got, wantD) || e == api.OK && len(m.Book.Entries) == len(l) && !sameDisk(got, clean) {
			t.Error(m)
		}
	}
	full := diskOf(0, 5, many(1, 60)...)
	noisy := full
	for i := 121; i < 242; i++ {
		noisy.Sectors[i] = sectorOfAll(byte(i))
	}
	if got, _, e := book.Open(noisy); !sameDisk(got, full) || e != api.OK {
		t.Error(e)
	}
	noisy = waiting()
	noisy.Sectors[0] = wantHead(1)
	if got, m, e := book.Open(noisy); !sameDisk(got, diskOf(0, 1)) || m.Used != 1 || e != api.OK {
		t.Error(m, e)
	}
	if !slices.Equal(noisy.Wait, nil) {
		t.Error(noisy.Wait)
	}
}
