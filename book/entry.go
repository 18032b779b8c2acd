package book

import "ullage/api"

// What an entry may have.
const (
	maxLot   = 99999
	maxValue = 1000000000000
)

// Sizes of bytes.
const (
	entrySize  = 43
	signedSize = 35 // those ahead of the tag
)

// Numbers of the tag.
const (
	tagStart = 14695981039346656037
	tagByte  = 1099511628211
	tagEnd   = 11400714819323198485
)

// isOriginal reports whether a kind is that of an original.
func isOriginal(kind int) bool { return isBetween(kind, api.FigScale, api.FigLoss) }

// isValue reports whether an entry may have this value.
func isValue(r api.Range) bool { return -maxValue <= r.Lo && r.Lo <= r.Hi && r.Hi <= maxValue }

// isEntry reports whether an entry is valid.
func isEntry(x api.Entry) bool {
	if !isPlace(x.At) || !isBetween(x.Time, 0, api.MaxClock) {
		return false
	}
	if isOriginal(x.Kind) {
		return isBetween(x.Lot, 1, maxLot) && isValue(x.Value) && x.Of == api.Place{}
	}
	switch x.Kind {
	case api.FigCorrect:
		return x.Lot == 0 && isValue(x.Value) && isPlace(x.Of)
	case api.FigAccept, api.FigRefuse:
		return x.Lot == 0 && x.Value == api.Range{} && isPlace(x.Of)
	}
	return false
}

// CheckEntry reports whether an entry is valid.
func CheckEntry(x api.Entry) api.Errno {
	if !isEntry(x) {
		return api.ErrEntry
	}
	return api.OK
}

// putNumber puts the lowest bytes of a number behind others, the most significant first.
func putNumber(b []byte, n, size int) []byte {
	for i := size - 1; i >= 0; i-- {
		b = append(b, byte(n>>(8*i)))
	}
	return b
}

// putPlace puts the bytes of a place behind others.
func putPlace(b []byte, p api.Place) []byte { return putNumber(putNumber(b, p.Party, 1), p.Seq, 4) }

// bytesOf are those of a valid entry.
func bytesOf(x api.Entry) []byte {
	b := putPlace(make([]byte, 0, entrySize), x.At)
	b = putNumber(b, x.Kind, 1)
	b = putNumber(b, x.Lot, 4)
	b = putNumber(b, x.Value.Lo, 8)
	b = putNumber(b, x.Value.Hi, 8)
	b = putNumber(b, x.Time, 4)
	b = putPlace(b, x.Of)
	return putNumber(b, int(x.Tag), 8)
}

// Encode returns the bytes of an entry.
func Encode(x api.Entry) ([]byte, api.Errno) {
	if e := CheckEntry(x); e != api.OK {
		return nil, e
	}
	return bytesOf(x), api.OK
}

// numberOf is the number that has these bytes.
func numberOf(b []byte) int {
	n := 0
	for _, c := range b {
		n = n<<8 | int(c)
	}
	return n
}

// wrong is the panic of bytes that are not those of a valid entry.
type wrong struct{}

// reader takes numbers from bytes, one after the other.
type reader struct{ rest []byte }

// number takes a number of so many bytes.
func (r *reader) number(size int) int {
	if len(r.rest) < size {
		panic(wrong{})
	}
	n := numberOf(r.rest[:size])
	r.rest = r.rest[size:]
	return n
}

// place takes a place.
func (r *reader) place() api.Place {
	var p api.Place
	p.Party = r.number(1)
	p.Seq = r.number(4)
	return p
}

// entry takes a valid entry, which is all that is left.
func (r *reader) entry() api.Entry {
	var x api.Entry
	x.At = r.place()
	x.Kind = r.number(1)
	x.Lot = r.number(4)
	x.Value.Lo = r.number(8)
	x.Value.Hi = r.number(8)
	x.Time = r.number(4)
	x.Of = r.place()
	x.Tag = uint64(r.number(8))
	if len(r.rest) > 0 || !isEntry(x) {
		panic(wrong{})
	}
	return x
}

// Decode returns the entry whose bytes they are.
func Decode(b []byte) (x api.Entry, e api.Errno) {
	defer func() {
		if _, ok := recover().(wrong); ok {
			x, e = api.Entry{}, api.ErrEntry
		}
	}()
	r := &reader{rest: b}
	return r.entry(), api.OK
}

// Tag is the tag of bytes under a key.
func Tag(b []byte, key uint64) uint64 {
	v := key ^ tagStart
	for _, c := range b {
		v = (v ^ uint64(c)) * tagByte
	}
	for range 3 {
		v = (v ^ v>>29) * tagEnd
	}
	return v ^ v>>32
}

// rightTag is the right tag of a valid entry under a key.
func rightTag(x api.Entry, key uint64) uint64 { return Tag(bytesOf(x)[:signedSize], key) }

// Sign returns an entry with its tag.
func Sign(x api.Entry, key uint64) (api.Entry, api.Errno) {
	if e := CheckEntry(x); e != api.OK {
		return api.Entry{}, e
	}
	x.Tag = rightTag(x, key)
	return x, api.OK
}

// Verify reports whether an entry's tag is right.
func Verify(x api.Entry, key uint64) api.Errno {
	if e := CheckEntry(x); e != api.OK {
		return e
	}
	if x.Tag != rightTag(x, key) {
		return api.ErrSeal
	}
	return api.OK
}
