package book

import (
	"iter"
	"slices"

	"ullage/api"
)

// maxGeneration is the greatest generation of an area.
const maxGeneration = 1000000000

// Parts of sectors.
const (
	title     = "ullage" // what a head begins with
	titleSize = 6
	countSize = 4                     // bytes of the generation, behind the title
	firstSize = 30                    // bytes of an entry in the first sector of its pair
	restSize  = entrySize - firstSize // in the second one
	kindHead  = 9
	kindFirst = 1
	kindRest  = 2
	lastByte  = 167
)

// sectorOf is the sector with these bytes, the byte of its kind, and the last byte. A write that is torn lacks that one, because a sector is blank until it is written.
func sectorOf(b []byte, kind byte) api.Sector {
	var s api.Sector
	copy(s[:], b)
	s[api.SectorSize-2] = kind
	s[api.SectorSize-1] = lastByte
	return s
}

// headOf is the head of a generation.
func headOf(generation int) api.Sector {
	return sectorOf(putNumber([]byte(title), generation, countSize), kindHead)
}

// generationOf returns the generation whose head a sector is; 0 if it is none.
func generationOf(s api.Sector) int {
	g := numberOf(s[titleSize : titleSize+countSize])
	if !isBetween(g, 1, maxGeneration) || s != headOf(g) {
		return 0
	}
	return g
}

// pair has the two sectors of an entry.
type pair [2]api.Sector

// pairOf is the pair of a valid entry.
func pairOf(x api.Entry) pair {
	b := bytesOf(x)
	return pair{sectorOf(b[:firstSize], kindFirst), sectorOf(b[firstSize:], kindRest)}
}

// entryOf returns the valid entry whose pair it is; false if there is none.
func entryOf(p pair) (api.Entry, bool) {
	x, e := Decode(slices.Concat(p[0][:firstSize], p[1][:restSize]))
	return x, e == api.OK && p == pairOf(x)
}

// firstOf is the first sector of an area.
func firstOf(area int) int { return area * api.Area }

// usedBy is how many sectors of an area are used by so many entries.
func usedBy(entries int) int { return 1 + 2*entries }

// pairsOf yields the pairs of an area.
func pairsOf(d api.Disk, area int) iter.Seq[pair] {
	return func(yield func(p pair) bool) {
		for i := range api.MaxEntries {
			at := firstOf(area) + usedBy(i)
			if !yield(pair{d.Sectors[at], d.Sectors[at+1]}) {
				return
			}
		}
	}
}

// entriesOf are those of an area.
func entriesOf(d api.Disk, area int) []api.Entry {
	var l []api.Entry
	for p := range pairsOf(d, area) {
		x, ok := entryOf(p)
		if !ok {
			break
		}
		l = append(l, x)
	}
	return l
}

// meantArea returns the area that is meant, and its generation, which is 0 if no area counts.
func meantArea(d api.Disk) (area, generation int) {
	for i := range api.Sectors / api.Area {
		if g := generationOf(d.Sectors[firstOf(i)]); g > generation {
			area, generation = i, g
		}
	}
	return area, generation
}

// isDisk reports whether a disk is valid.
func isDisk(d api.Disk) bool {
	return !slices.ContainsFunc(d.Wait, func(w api.Write) bool { return !isBetween(w.At, 0, api.Sectors-1) })
}

// copyOfDisk shares no memory with a disk.
func copyOfDisk(d api.Disk) api.Disk {
	d.Wait = slices.Clone(d.Wait)
	return d
}

// made is a disk of whose waiting writes so many first bytes are firm; itself if it is not valid.
func made(d api.Disk, firm func(i int) int) api.Disk {
	if !isDisk(d) {
		return copyOfDisk(d)
	}
	for i, w := range d.Wait {
		copy(d.Sectors[w.At][:firm(i)], w.Data[:])
	}
	d.Wait = nil
	return d
}

// Sync makes all writes firm.
func Sync(d api.Disk) api.Disk { return made(d, func(int) int { return api.SectorSize }) }

// pick is the i-th number that picks give, modulo n.
func pick(picks []int, i, n int) int {
	if len(picks) == 0 {
		return 0
	}
	return (picks[i%len(picks)]%n + n) % n
}

// Crash is a disk behind a failure of the power.
func Crash(d api.Disk, kept []int) api.Disk {
	return made(d, func(i int) int { return pick(kept, i, api.SectorSize+1) })
}

// New returns an empty disk and its journal.
func New() (api.Disk, api.Store) {
	m := api.Store{Generation: 1, Used: usedBy(0)}
	var d api.Disk
	d.Sectors[firstOf(m.Area)] = headOf(m.Generation)
	return d, m
}

// cleared is the disk that has the used sectors of a store, and is blank besides.
func cleared(d api.Disk, m api.Store) api.Disk {
	var clean api.Disk
	from := firstOf(m.Area)
	copy(clean.Sectors[from:from+m.Used], d.Sectors[from:])
	return clean
}

// Open returns what a disk has.
func Open(d api.Disk) (api.Disk, api.Store, api.Errno) {
	if !isDisk(d) {
		return api.Disk{}, api.Store{}, api.ErrDisk
	}
	d = Sync(d)
	area, generation := meantArea(d)
	if generation == 0 {
		return api.Disk{}, api.Store{}, api.ErrDisk
	}
	l := entriesOf(d, area)
	slices.SortFunc(l, compareEntries)
	m := api.Store{Book: api.Book{Entries: l}, Area: area, Generation: generation, Used: usedBy(len(l))}
	// All entries are valid, and not too many: the book is valid unless two are of one place.
	if CheckBook(m.Book) != api.OK {
		return api.Disk{}, api.Store{}, api.ErrDisk
	}
	return cleared(d, m), m, api.OK
}
