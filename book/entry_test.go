package book_test

import (
	"bytes"
	"math"
	"math/rand"
	"slices"
	"testing"

	"ullage/api"
	"ullage/book"
)

// with is an entry that is changed.
func with(x api.Entry, change func(x *api.Entry)) api.Entry {
	change(&x)
	return x
}

// validEntries are at the limits.
func validEntries() []api.Entry {
	const most = 1000000000000
	last := place(3, 99999)
	l := []api.Entry{
		exampleX(), exampleY(), exampleZ(),
		scale(0, 0, 1, -most, -most, 0),
		figure(api.FigLoss, 3, 99999, 99999, most, most, 1000000),
		figure(api.FigBill, 2, 1, 1, -most, most, 1),
		correct(0, 0, -most, most, 0, last), correct(3, 99999, 0, 0, 1000000, api.Place{}),
		accept(3, 99999, 1000000, last), accept(0, 0, 0, api.Place{}),
		refuse(3, 99999, 1000000, last), refuse(1, 2, 3, place(1, 2)),
	}
	for i, tag := range []uint64{1, 1 << 63, math.MaxUint64} {
		l[i].Tag = tag
	}
	return l
}

// invalidEntries have one thing that may not be.
func invalidEntries() []api.Entry {
	var l []api.Entry
	for _, x := range []api.Entry{exampleX(), figure(api.FigDraft, 0, 1, 1, 0, 1, 0), figure(api.FigBill, 1, 1, 1, 0, 1, 0), figure(api.FigLoss, 2, 1, 1, 0, 1, 0), exampleZ(), accept(0, 0, 0, place(1, 1)), refuse(1, 1, 1, place(1, 1))} {
		for _, odd := range []int{-1, 4, 256, math.MinInt, math.MaxInt} {
			l = append(l, with(x, func(x *api.Entry) { x.At.Party = odd }), with(x, func(x *api.Entry) { x.Of.Party = odd }))
		}
		for _, odd := range []int{-1, 100000, 1 << 32, math.MinInt, math.MaxInt} {
			l = append(l, with(x, func(x *api.Entry) { x.At.Seq = odd }), with(x, func(x *api.Entry) { x.Of.Seq = odd }))
			l = append(l, with(x, func(x *api.Entry) { x.Lot = odd }))
		}
		for _, odd := range []int{-1, 1000001, 1 << 32, math.MinInt, math.MaxInt} {
			l = append(l, with(x, func(x *api.Entry) { x.Time = odd }))
		}
		for _, odd := range []int{-1, 0, 8, 256, 261, math.MinInt, math.MaxInt} {
			l = append(l, with(x, func(x *api.Entry) { x.Kind = odd }))
		}
		for _, odd := range []api.Range{span(1, 0), span(-1000000000001, 0), span(0, 1000000000001), span(math.MinInt, math.MaxInt), span(math.MaxInt, math.MinInt), span(1000000000001, 1000000000002)} {
			l = append(l, with(x, func(x *api.Entry) { x.Value = odd }))
		}
	}
	for kind := api.FigScale; kind <= api.FigLoss; kind++ {
		x := with(exampleX(), func(x *api.Entry) { x.Kind = kind })
		l = append(l, with(x, func(x *api.Entry) { x.Lot = 0 }), with(x, func(x *api.Entry) { x.Of.Seq = 1 }), with(x, func(x *api.Entry) { x.Of.Party = 1 }))
	}
	for _, x := range []api.Entry{exampleZ(), accept(0, 0, 0, place(1, 1)), refuse(0, 0, 0, place(1, 1))} {
		l = append(l, with(x, func(x *api.Entry) { x.Lot = 1 }))
		if x.Kind != api.FigCorrect {
			l = append(l, with(x, func(x *api.Entry) { x.Value = span(0, 1) }), with(x, func(x *api.Entry) { x.Value = span(-1, 0) }))
		}
	}
	return append(l, api.Entry{})
}

func TestCheckEntry(t *testing.T) {
	for _, x := range validEntries() {
		if e := book.CheckEntry(x); e != api.OK {
			t.Errorf("CheckEntry of %v: %d", x, e)
		}
	}
	for _, x := range invalidEntries() {
		if wantValid(x) {
			t.Fatalf("%v is valid", x)
		}
		if e := book.CheckEntry(x); e != api.ErrEntry {
			t.Errorf("CheckEntry of %v: %d", x, e)
		}
		if b, e := book.Encode(x); len(b) > 0 || e != api.ErrEntry {
			t.Errorf("Encode of %v: %v %d", x, b, e)
		}
		if y, e := book.Sign(x, 1); y != (api.Entry{}) || e != api.ErrEntry {
			t.Errorf("Sign of %v: %v %d", x, y, e)
		}
		if e := book.Verify(x, 1); e != api.ErrEntry {
			t.Errorf("Verify of %v: %d", x, e)
		}
	}
}

func TestEncodeAndDecode(t *testing.T) {
	b, e := book.Encode(exampleX())
	if e != api.OK || !slices.Equal(b[:10], []byte{0, 0, 0, 0, 0, 1, 0, 0, 0, 7}) {
		t.Error(b, e)
	}
	x := correct(3, 70000, -2, 258, 65537, place(2, 0x2364))
	x.Tag = 0x0102030405060708
	want := []byte{3, 0, 1, 17, 112, 5, 0, 0, 0, 0, 255, 255, 255, 255, 255, 255, 255, 254, 0, 0, 0, 0, 0, 0, 1, 2, 0, 1, 0, 1, 2, 0, 0, 0x23, 0x64, 1, 2, 3, 4, 5, 6, 7, 8}
	if b, e := book.Encode(x); !bytes.Equal(b, want) || e != api.OK {
		t.Error(b, e)
	}
	for _, x := range validEntries() {
		b, e := book.Encode(x)
		if !bytes.Equal(b, wantBytes(x)) || len(b) != 43 || e != api.OK {
			t.Errorf("Encode of %v: %v %d", x, b, e)
		}
		if y, e := book.Decode(b); y != x || e != api.OK {
			t.Errorf("Decode of %v: %v %d, want %v", b, y, e, x)
		}
	}
}

func TestDecodeOfOtherBytes(t *testing.T) {
	whole := wantBytes(exampleZ())
	for n := range 60 {
		b := append(slices.Clone(whole), make([]byte, 20)...)[:n]
		if x, e := book.Decode(b); (e == api.OK) != (n == 43) || e != api.OK && (e != api.ErrEntry || x != (api.Entry{})) {
			t.Errorf("Decode of %d bytes: %v %d", n, x, e)
		}
	}
	if _, e := book.Decode(nil); e != api.ErrEntry {
		t.Error(e)
	}
	// Each byte of each entry, changed: the entry is another one, or there is none.
	for _, x := range validEntries() {
		for i := range whole {
			for _, c := range []byte{0, 1, 3, 4, 5, 6, 7, 8, 127, 128, 254, 255} {
				b := wantBytes(x)
				b[i] = c
				want := wantEntry(b)
				y, e := book.Decode(b)
				if wantValid(want) && (y != want || e != api.OK) || !wantValid(want) && (y != api.Entry{} || e != api.ErrEntry) {
					t.Errorf("Decode of %v: %v %d, want %v", b, y, e, want)
				}
			}
		}
	}
}

func TestTag(t *testing.T) {
	r := rand.New(rand.NewSource(84))
	texts := [][]byte{nil, {}, {0}, {255}, []byte("ullage"), make([]byte, 100)}
	for n := range 50 {
		b := make([]byte, n)
		r.Read(b)
		texts = append(texts, b)
	}
	for _, b := range texts {
		for _, key := range []uint64{0, 1, 14695981039346656037, math.MaxUint64, 1 << 63, r.Uint64()} {
			if got, want := book.Tag(b, key), wantTag(b, key); got != want {
				t.Errorf("Tag of %v under %d: %d, want %d", b, key, got, want)
			}
		}
	}
}

func TestSignAndVerify(t *testing.T) {
	for _, x := range validEntries() {
		for _, key := range []uint64{0, 1, 1000003, math.MaxUint64} {
			y, e := book.Sign(x, key)
			if y != signed(x, key) || e != api.OK {
				t.Errorf("Sign of %v: %v %d", x, y, e)
			}
			if e := book.Verify(y, key); e != api.OK {
				t.Errorf("Verify of %v: %d", y, e)
			}
			if e := book.Verify(y, key+1); e != api.ErrSeal {
				t.Errorf("Verify of %v under another key: %d", y, e)
			}
			for bit := range 64 {
				if e := book.Verify(with(y, func(x *api.Entry) { x.Tag ^= 1 << bit }), key); e != api.ErrSeal {
					t.Errorf("Verify of %v with another tag: %d", y, e)
				}
			}
			if e := book.Verify(with(y, func(x *api.Entry) { x.Time = 1 - min(x.Time, 1) }), key); e != api.ErrSeal {
				t.Errorf("Verify of %v at another time: %d", y, e)
			}
		}
	}
	if e := book.Verify(exampleX(), 1); e != api.ErrSeal {
		t.Error(e)
	}
}
