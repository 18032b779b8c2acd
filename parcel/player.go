package parcel

import (
	"maps"
	"slices"

	"ullage/api"
)

// lotSet has lots, by their ids.
type lotSet map[int]bool

// player does deeds with its stock, one after the other.
type player struct {
	api.Stock
	may      [api.MaxHolds][]lotSet // what each heap may have
	moved    api.Heap               // what the last deed moved
	mayMoved lotSet                 // what that may have
}

// playerOf has a copy of a valid stock. Each heap of it may have the lots of its parts.
func playerOf(s api.Stock) *player {
	p := &player{Stock: copyOfStock(s), mayMoved: lotSet{}}
	for hold, heaps := range p.Holds {
		for _, h := range heaps {
			set := lotSet{}
			for _, part := range h.Parts {
				set[part.Lot] = true
			}
			p.may[hold] = append(p.may[hold], set)
		}
	}
	return p
}

// ways has what the deeds of each kind do.
func ways() map[int]func(*player, api.Deed) {
	return map[int]func(*player, api.Deed){
		api.DeedPour:  (*player).pour,
		api.DeedLay:   (*player).lay,
		api.DeedDraw:  (*player).draw,
		api.DeedShift: (*player).shift,
		api.DeedLose:  (*player).lose,
		api.DeedMix:   (*player).mix,
	}
}

// do does a deed, if it can be done.
func (p *player) do(d api.Deed) api.Errno {
	if e := checkDeed(p.Stock, d); e != api.OK {
		return e
	}
	p.moved = api.Heap{}
	clear(p.mayMoved)
	ways()[d.Kind](p, d)
	return api.OK
}

// bring moves the mass of a lot, which is in no hold yet.
func (p *player) bring(d api.Deed) {
	p.moved = api.Heap{Parts: []api.Part{{Lot: d.Lot, Mass: d.Mass}}}
	p.mayMoved[d.Lot] = true
}

// take moves a mass from a heap of a hold. A heap that has no part any more stays until sweep.
func (p *player) take(hold, heap, mass int) {
	// A heap of which nothing is taken gives nothing of what it may have.
	if mass == 0 {
		return
	}
	taken, left := split(p.Holds[hold][heap], mass)
	p.Holds[hold][heap] = left
	p.moved = join(p.moved, taken)
	maps.Copy(p.mayMoved, p.may[hold][heap])
}

// sweep removes the heaps of a hold that have no part.
func (p *player) sweep(hold int) {
	var heaps []api.Heap
	var may []lotSet
	for i, h := range p.Holds[hold] {
		if len(h.Parts) > 0 {
			heaps = append(heaps, h)
			may = append(may, p.may[hold][i])
		}
	}
	p.Holds[hold], p.may[hold] = heaps, may
}

// stack makes what is moved a heap of its own, the upmost one of a hold.
func (p *player) stack(hold int) {
	p.Holds[hold] = append(p.Holds[hold], copyOfHeap(p.moved))
	p.may[hold] = append(p.may[hold], maps.Clone(p.mayMoved))
}

// commingle joins what is moved with the upmost heap of a hold. In an empty hold it is a heap.
func (p *player) commingle(hold int) {
	last := len(p.Holds[hold]) - 1
	if last < 0 {
		p.stack(hold)
		return
	}
	p.Holds[hold][last] = join(p.Holds[hold][last], p.moved)
	maps.Copy(p.may[hold][last], p.mayMoved)
}

// pour does a DeedPour.
func (p *player) pour(d api.Deed) {
	p.bring(d)
	p.commingle(d.To)
}

// lay does a DeedLay.
func (p *player) lay(d api.Deed) {
	p.bring(d)
	p.stack(d.To)
}

// draw does a DeedDraw.
func (p *player) draw(d api.Deed) {
	rest := d.Mass
	for i, h := range slices.Backward(p.Holds[d.From]) {
		mass := min(rest, massOf(h))
		p.take(d.From, i, mass)
		rest -= mass
	}
	p.sweep(d.From)
}

// shift does a DeedShift.
func (p *player) shift(d api.Deed) {
	p.draw(d)
	p.commingle(d.To)
}

// lose does a DeedLose.
func (p *player) lose(d api.Deed) {
	var masses []int
	for _, h := range p.Holds[d.From] {
		masses = append(masses, massOf(h))
	}
	for i, mass := range deal(d.Mass, masses) {
		p.take(d.From, i, mass)
	}
	p.sweep(d.From)
}

// mix does a DeedMix. It moves nothing.
func (p *player) mix(d api.Deed) {
	heaps, may := p.Holds[d.From], p.may[d.From]
	last := len(heaps) - 1
	heaps[last-1] = join(heaps[last-1], heaps[last])
	maps.Copy(may[last-1], may[last])
	p.Holds[d.From], p.may[d.From] = slices.Delete(heaps, last, last+1), slices.Delete(may, last, last+1)
}
