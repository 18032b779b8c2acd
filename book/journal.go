package book

import (
	"slices"

	"ullage/api"
)

// journal is a disk with its store.
type journal struct {
	api.Disk
	api.Store
}

// areSameStores reports whether two stores are equal.
func areSameStores(a, b api.Store) bool {
	return a.Area == b.Area && a.Generation == b.Generation && a.Used == b.Used && slices.Equal(a.Book.Entries, b.Book.Entries)
}

// journalOf returns a copy of a disk and its store; ErrDisk if the store is not that of the disk.
func journalOf(d api.Disk, m api.Store) (*journal, api.Errno) {
	// A store is that of a disk if and only if it is what Open tells of the disk, and Open has nothing to blank.
	open, own, e := Open(d)
	if e != api.OK {
		return nil, e
	}
	if open.Sectors != Sync(d).Sectors || !areSameStores(own, m) {
		return nil, api.ErrDisk
	}
	return &journal{Disk: copyOfDisk(d), Store: own}, api.OK
}

// sync makes all writes firm.
func (j *journal) sync() { j.Disk = Sync(j.Disk) }

// writesOf are those of pairs of entries, from a sector on.
func writesOf(l []api.Entry, from int) []api.Write {
	var writes []api.Write
	for i, x := range l {
		for k, s := range pairOf(x) {
			writes = append(writes, api.Write{At: from + 2*i + k, Data: s})
		}
	}
	return writes
}

// blanks are the writes that make an area blank.
func blanks(area int) []api.Write {
	var writes []api.Write
	for i := range api.Area {
		writes = append(writes, api.Write{At: firstOf(area) + i})
	}
	return writes
}

// enter puts an entry into the journal. With an error nothing has changed.
func (j *journal) enter(x api.Entry) api.Errno {
	b, e := Add(j.Book, x)
	if e != api.OK {
		return e
	}
	if len(b.Entries) > len(j.Book.Entries) {
		j.Wait = append(j.Wait, writesOf([]api.Entry{x}, firstOf(j.Area)+j.Used)...)
		j.Used = usedBy(len(b.Entries))
	}
	j.Book = b
	return api.OK
}

// Append puts an entry into a journal.
func Append(d api.Disk, m api.Store, x api.Entry) (api.Disk, api.Store, api.Errno) {
	j, e := journalOf(d, m)
	if e == api.OK {
		e = j.enter(x)
	}
	if e != api.OK {
		return api.Disk{}, api.Store{}, e
	}
	return j.Disk, j.Store, api.OK
}

// pack writes the journal into the other area, and returns the disks on the way.
func (j *journal) pack() []api.Disk {
	old := j.Area
	j.Area = 1 - old
	j.Generation++
	head := firstOf(j.Area)
	j.sync()
	l := []api.Disk{j.Disk}
	// The head comes behind the pairs, and the old area stays until the head is firm: at each instant one of the areas has all.
	for _, writes := range [][]api.Write{
		writesOf(j.Book.Entries, head+usedBy(0)),
		{{At: head, Data: headOf(j.Generation)}},
		blanks(old),
	} {
		j.Wait = writes
		l = append(l, j.Disk)
		j.sync()
		l = append(l, j.Disk)
	}
	return l
}

// Pack writes a journal into the other area; it returns the disks on the way.
func Pack(d api.Disk, m api.Store) ([]api.Disk, api.Store, api.Errno) {
	j, e := journalOf(d, m)
	if e == api.OK && j.Generation == maxGeneration {
		e = api.ErrDisk
	}
	if e != api.OK {
		return nil, api.Store{}, e
	}
	l := j.pack()
	return l, j.Store, api.OK
}
