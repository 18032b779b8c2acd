package desk

import (
	"slices"

	"ullage/api"
	"ullage/book"
	"ullage/parcel"
)

// poursOf are the pours of the numbers of a command, five of each.
func poursOf(n []int) []api.Pour {
	var l []api.Pour
	for i := 0; i < len(n); i += 5 {
		l = append(l, pourAt(n, i))
	}
	return l
}

// pour begins a stage, of one pour or two.
func (d *Desk) pour(n []int) []string {
	v, many, e := Begin(d.sailing.Voyage, poursOf(n))
	if e == api.ErrUnsafe {
		return []string{"unsafe " + d.reason(n)}
	}
	need(e)
	d.sailing.Voyage = v
	return []string{headed("stage", many)}
}

// stock is the stock behind all deeds so far.
func (d *Desk) stock() api.Stock {
	s, _, e := parcel.Play(d.lots, d.deeds)
	need(e)
	return s
}

func (d *Desk) doDeed(n []int) []string {
	need(unless(len(d.deeds) < api.MaxDeeds, api.ErrLong))
	x := api.Deed{Kind: n[0], Lot: n[1], From: n[2], To: n[3], Mass: n[4]}
	_, moved, e := parcel.Do(d.stock(), x)
	need(e)
	d.deeds = append(d.deeds, x)
	return []string{headed("moved", parcel.Mass(moved))}
}

// keyOf is the key of a party.
func keyOf(party int) uint64 { return 1000003 * (uint64(party) + 1) }

// keys are those of all parties.
func keys() [api.MaxParties]uint64 {
	var all [api.MaxParties]uint64
	for p := range all {
		all[p] = keyOf(p)
	}
	return all
}

// nodeOf is where the node of a party is kept.
func (d *Desk) nodeOf(party int) *api.Node {
	need(unless(isParty(party), api.ErrArg))
	return &d.nodes[party]
}

func (d *Desk) note(n []int) []string {
	at := d.nodeOf(n[0])
	x := api.Entry{Kind: n[1], Lot: n[2], Value: pairAt(n, 3), Time: n[5], Of: api.Place{Party: n[6], Seq: n[7]}}
	node, x, e := book.Note(*at, x, keyOf(n[0]))
	need(e)
	*at = node
	return []string{headed("entry", x.At.Party, x.At.Seq)}
}

// underWay tells how many messages are under way.
func (d *Desk) underWay() []string { return []string{headed("messages", len(d.wires))} }

// send puts messages behind those that are under way, if there is room for them.
func (d *Desk) send(l []api.Message) {
	need(unless(len(d.wires)+len(l) <= api.MaxWires, api.ErrLong))
	d.wires = append(d.wires, l...)
}

func (d *Desk) offer(n []int) []string {
	at := d.nodeOf(n[0])
	node, l, e := book.Offer(*at, n[1])
	need(e)
	d.send(l)
	*at = node
	return d.underWay()
}

// wireAt is the index of the message that a number picks.
func (d *Desk) wireAt(n int) int {
	many := len(d.wires)
	need(unless(many > 0, api.ErrNone))
	return (n%many + many) % many
}

// take takes the message that a number picks from those that are under way.
func (d *Desk) take(n int) api.Message {
	i := d.wireAt(n)
	m := d.wires[i]
	d.wires = slices.Delete(d.wires, i, i+1)
	return m
}

// deliver brings a message to its party. If that refuses it, the message is gone all the same.
func (d *Desk) deliver(n []int) []string {
	m := d.take(n[0])
	at := d.nodeOf(m.To)
	node, l, e := book.Receive(*at, m, keys())
	need(e)
	*at = node
	d.send(l)
	return d.underWay()
}

func (d *Desk) lose(n []int) []string {
	d.take(n[0])
	return d.underWay()
}

func (d *Desk) double(n []int) []string {
	i := d.wireAt(n[0])
	d.send([]api.Message{d.wires[i]})
	return d.underWay()
}

func (d *Desk) restart(n []int) []string {
	at := d.nodeOf(n[0])
	*at = must(book.Restart(*at, n[1:]))
	return []string{headed("entries", len(at.Store.Book.Entries))}
}
