package book

import (
	"slices"

	"ullage/api"
)

// node is a party at work: its journal, and the places of the entries that each party is known to have.
type node struct {
	journal
	me    int
	known [api.MaxParties][]api.Place
}

// nodeOf returns a copy of a node.
func nodeOf(n api.Node) (*node, api.Errno) {
	if !isParty(n.Me) {
		return nil, api.ErrArg
	}
	w := &node{me: n.Me}
	for party, l := range n.Known {
		if !arePlaces(l) {
			return nil, api.ErrArg
		}
		w.known[party] = slices.Clone(l)
	}
	j, e := journalOf(n.Disk, n.Store)
	if e != api.OK {
		return nil, e
	}
	w.journal = *j
	return w, api.OK
}

// told is the node as others see it.
func (n *node) told() api.Node {
	return api.Node{Me: n.me, Disk: n.Disk, Store: n.Store, Known: n.known}
}

// isOther reports whether a number is that of another party.
func (n *node) isOther(party int) bool { return isParty(party) && party != n.me }

// whereKnown returns where a place stands, or would stand, in what a party is known to have, and whether it does.
func (n *node) whereKnown(party int, at api.Place) (int, bool) {
	return slices.BinarySearchFunc(n.known[party], at, comparePlaces)
}

// know puts a place into what a party is known to have.
func (n *node) know(party int, at api.Place) {
	if i, ok := n.whereKnown(party, at); !ok {
		n.known[party] = slices.Insert(n.known[party], i, at)
	}
}

// NewNode returns a party without entries.
func NewNode(me int) (api.Node, api.Errno) {
	if !isParty(me) {
		return api.Node{}, api.ErrArg
	}
	d, m := New()
	return api.Node{Me: me, Disk: d, Store: m}, api.OK
}

// Note writes an entry of the party's own.
func Note(n api.Node, x api.Entry, key uint64) (api.Node, api.Entry, api.Errno) {
	w, e := nodeOf(n)
	if e != api.OK {
		return api.Node{}, api.Entry{}, e
	}
	x.At = api.Place{Party: w.me, Seq: Next(w.Book, w.me)}
	x, e = Sign(x, key)
	if e == api.OK {
		e = w.enter(x)
	}
	if e != api.OK {
		return api.Node{}, api.Entry{}, e
	}
	return w.told(), x, api.OK
}

// Offer returns what another party is not known to have.
func Offer(n api.Node, to int) (api.Node, []api.Message, api.Errno) {
	w, e := nodeOf(n)
	if e != api.OK {
		return api.Node{}, nil, e
	}
	if !w.isOther(to) {
		return api.Node{}, nil, api.ErrArg
	}
	// What others learn must not be lost, or its place would be taken again.
	w.sync()
	var l []api.Message
	for _, x := range w.Book.Entries {
		if _, ok := w.whereKnown(to, x.At); !ok {
			l = append(l, api.Message{From: w.me, To: to, Entry: x})
		}
	}
	return w.told(), l, api.OK
}

// heed takes an acknowledgement of a party.
func (n *node) heed(from int, at api.Place) api.Errno {
	if _, ok := find(n.Book, at); !ok {
		return api.ErrNone
	}
	n.know(from, at)
	return api.OK
}

// take takes an entry that a party has sent.
func (n *node) take(from int, x api.Entry, keys [api.MaxParties]uint64) api.Errno {
	if e := CheckEntry(x); e != api.OK {
		return e
	}
	if e := Verify(x, keys[x.At.Party]); e != api.OK {
		return e
	}
	if e := n.enter(x); e != api.OK {
		return e
	}
	// Only what is firm is acknowledged.
	n.sync()
	n.know(from, x.At)
	return api.OK
}

// answer takes a message, and returns the answers.
func (n *node) answer(m api.Message, keys [api.MaxParties]uint64) ([]api.Message, api.Errno) {
	if m.To != n.me || !n.isOther(m.From) {
		return nil, api.ErrArg
	}
	if m.Ack {
		return nil, n.heed(m.From, m.Entry.At)
	}
	if e := n.take(m.From, m.Entry, keys); e != api.OK {
		return nil, e
	}
	return []api.Message{{From: n.me, To: m.From, Ack: true, Entry: m.Entry}}, api.OK
}

// Receive takes a message, and returns the answers.
func Receive(n api.Node, m api.Message, keys [api.MaxParties]uint64) (api.Node, []api.Message, api.Errno) {
	w, e := nodeOf(n)
	if e != api.OK {
		return api.Node{}, nil, e
	}
	l, e := w.answer(m, keys)
	if e != api.OK {
		return api.Node{}, nil, e
	}
	return w.told(), l, api.OK
}

// Restart is a party behind a failure of the power.
func Restart(n api.Node, kept []int) (api.Node, api.Errno) {
	w, e := nodeOf(n)
	if e != api.OK {
		return api.Node{}, e
	}
	// A node that was not made by the functions of this package may have the head of its area among the waiting writes: then Open may have an error.
	d, m, e := Open(Crash(w.Disk, kept))
	if e != api.OK {
		return api.Node{}, e
	}
	return api.Node{Me: w.me, Disk: d, Store: m}, api.OK
}
