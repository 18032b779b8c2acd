package parcel_test

import (
	"maps"
	"math/big"
	"math/rand"
	"slices"
	"testing"

	"ullage/api"
	"ullage/parcel"
)

// The oracle deals with exact fractions, and knows heaps as masses by their lots.

// exampleLots and exampleDeeds are those of the chapter's examples.
func exampleLots() []api.Lot {
	return []api.Lot{{Id: 1, Owner: 1, Grade: 1, Wet: 1300}, {Id: 2, Owner: 2, Grade: 1, Wet: 1500}, {Id: 3, Owner: 1, Grade: 2, Wet: 1000}}
}

func exampleDeeds() []api.Deed {
	return []api.Deed{pour(1, 0, 60), pour(2, 0, 40), draw(0, 50), lay(3, 0, 10), shift(0, 4, 20)}
}

func pour(lot, to, mass int) api.Deed {
	return api.Deed{Kind: api.DeedPour, Lot: lot, To: to, Mass: mass}
}
func lay(lot, to, mass int) api.Deed {
	return api.Deed{Kind: api.DeedLay, Lot: lot, To: to, Mass: mass}
}
func draw(from, mass int) api.Deed { return api.Deed{Kind: api.DeedDraw, From: from, Mass: mass} }
func shift(from, to, mass int) api.Deed {
	return api.Deed{Kind: api.DeedShift, From: from, To: to, Mass: mass}
}
func lose(from, mass int) api.Deed { return api.Deed{Kind: api.DeedLose, From: from, Mass: mass} }
func mix(from int) api.Deed        { return api.Deed{Kind: api.DeedMix, From: from} }

// heap makes a heap of lots and masses.
func heap(l ...int) api.Heap {
	var h api.Heap
	for i := 0; i < len(l); i += 2 {
		h.Parts = append(h.Parts, api.Part{Lot: l[i], Mass: l[i+1]})
	}
	return h
}

// stock makes a stock of the example's lots, with these heaps in the hold 0.
func stock(heaps ...api.Heap) api.Stock {
	s := api.Stock{Lots: exampleLots()}
	s.Holds[0] = heaps
	return s
}

func sameHeap(a, b api.Heap) bool { return slices.Equal(a.Parts, b.Parts) }

func sameStock(a, b api.Stock) bool {
	same := slices.Equal(a.Lots, b.Lots)
	for hold := range a.Holds {
		same = same && slices.EqualFunc(a.Holds[hold], b.Holds[hold], sameHeap)
	}
	return same
}

// wantDeal deals a mass to numbers, and gives what is left to one number after the other.
func wantDeal(mass int, numbers []int) []int {
	sum := 0
	for _, n := range numbers {
		sum += n
	}
	dealt := make([]int, len(numbers))
	remainders := make([]*big.Rat, len(numbers))
	left := mass
	for i, n := range numbers {
		exact := new(big.Rat).Mul(big.NewRat(int64(mass), 1), big.NewRat(int64(n), int64(sum)))
		down := new(big.Int).Div(exact.Num(), exact.Denom())
		dealt[i] = int(down.Int64())
		remainders[i] = exact.Sub(exact, new(big.Rat).SetInt(down))
		left -= dealt[i]
	}
	for ; left > 0; left-- {
		best := 0
		for i := range numbers {
			if remainders[i].Cmp(remainders[best]) > 0 {
				best = i
			}
		}
		dealt[best]++
		remainders[best] = big.NewRat(-1, 1)
	}
	return dealt
}

// pile is a heap of the oracle: the masses of its lots (none is 0), and the lots that it may have.
type pile struct {
	mass map[int]int
	may  map[int]bool
}

func noPile() pile { return pile{map[int]int{}, map[int]bool{}} }

func pileOf(lot, mass int) pile { return pile{map[int]int{lot: mass}, map[int]bool{lot: true}} }

func (p pile) sum() int {
	sum := 0
	for _, m := range p.mass {
		sum += m
	}
	return sum
}

func (p pile) lots() []int { return slices.Sorted(maps.Keys(p.mass)) }

func (p pile) heap() api.Heap {
	var h api.Heap
	for _, lot := range p.lots() {
		h.Parts = append(h.Parts, api.Part{Lot: lot, Mass: p.mass[lot]})
	}
	return h
}

// plus is both piles, commingled.
func (p pile) plus(q pile) pile {
	both := noPile()
	for _, x := range []pile{p, q} {
		for lot, m := range x.mass {
			both.mass[lot] += m
		}
		maps.Copy(both.may, x.may)
	}
	return both
}

// less takes a mass from the pile; what is taken and what is left is a pile without anything, if it has no mass.
func (p pile) less(mass int) (taken, left pile) {
	if mass == 0 {
		return noPile(), p
	}
	if mass == p.sum() {
		return p, noPile()
	}
	taken, left = pile{map[int]int{}, p.may}, pile{map[int]int{}, p.may}
	var masses []int
	for _, lot := range p.lots() {
		masses = append(masses, p.mass[lot])
	}
	for i, m := range wantDeal(mass, masses) {
		lot := p.lots()[i]
		if m > 0 {
			taken.mass[lot] = m
		}
		if m < masses[i] {
			left.mass[lot] = masses[i] - m
		}
	}
	return taken, left
}

// world is a stock of the oracle.
type world struct {
	lots  []api.Lot
	holds [api.MaxHolds][]pile
}

func (w *world) clone() *world {
	c := &world{lots: w.lots}
	for hold := range w.holds {
		c.holds[hold] = slices.Clone(w.holds[hold])
	}
	return c
}

func (w *world) stock() api.Stock {
	s := api.Stock{Lots: slices.Clone(w.lots)}
	for hold, piles := range w.holds {
		for _, p := range piles {
			s.Holds[hold] = append(s.Holds[hold], p.heap())
		}
	}
	return s
}

func (w *world) all(hold int) pile {
	all := noPile()
	for _, p := range w.holds[hold] {
		all = all.plus(p)
	}
	return all
}

// fault is the error of a deed.
func (w *world) fault(d api.Deed) api.Errno {
	const lot, from, to, mass = 1, 2, 4, 8
	uses, ok := map[int]int{api.DeedPour: lot | to | mass, api.DeedLay: lot | to | mass, api.DeedDraw: from | mass, api.DeedShift: from | to | mass, api.DeedLose: from | mass, api.DeedMix: from}[d.Kind]
	if !ok {
		return api.ErrDeed
	}
	known := slices.ContainsFunc(w.lots, func(x api.Lot) bool { return x.Id == d.Lot })
	for _, x := range []struct {
		use, number int
		right       bool
	}{
		{lot, d.Lot, known},
		{from, d.From, d.From >= 0 && d.From <= 8},
		{to, d.To, d.To >= 0 && d.To <= 8},
		{mass, d.Mass, d.Mass >= 1 && d.Mass <= 100000000},
	} {
		if uses&x.use != 0 && !x.right || uses&x.use == 0 && x.number != 0 {
			return api.ErrDeed
		}
	}
	if d.Kind == api.DeedShift && d.From == d.To {
		return api.ErrDeed
	}
	if uses&from != 0 && d.Mass > w.all(d.From).sum() {
		return api.ErrLess
	}
	if d.Kind == api.DeedMix && len(w.holds[d.From]) < 2 {
		return api.ErrNone
	}
	if uses&to != 0 && w.all(d.To).sum()+d.Mass > 100000000 {
		return api.ErrLong
	}
	if d.Kind == api.DeedLay && len(w.holds[d.To]) == 4 {
		return api.ErrLong
	}
	return api.OK
}

// put joins a pile with the upmost one of a hold.
func (w *world) put(hold int, p pile) {
	if n := len(w.holds[hold]); n > 0 {
		w.holds[hold][n-1] = w.holds[hold][n-1].plus(p)
	} else {
		w.holds[hold] = []pile{p}
	}
}

// drawn takes a mass from a hold, from above.
func (w *world) drawn(hold, mass int) pile {
	moved := noPile()
	for mass > 0 {
		n := len(w.holds[hold])
		top := w.holds[hold][n-1]
		taken, left := top.less(min(mass, top.sum()))
		moved = moved.plus(taken)
		mass -= taken.sum()
		w.holds[hold] = w.holds[hold][:n-1]
		if left.sum() > 0 {
			w.holds[hold] = append(w.holds[hold], left)
		}
	}
	return moved
}

// lost takes a mass from all piles of a hold.
func (w *world) lost(hold, mass int) pile {
	moved := noPile()
	var sums []int
	for _, p := range w.holds[hold] {
		sums = append(sums, p.sum())
	}
	var piles []pile
	for i, m := range wantDeal(mass, sums) {
		taken, left := w.holds[hold][i].less(m)
		moved = moved.plus(taken)
		if left.sum() > 0 {
			piles = append(piles, left)
		}
	}
	w.holds[hold] = piles
	return moved
}

// do does a deed that has no error, and returns what is moved.
func (w *world) do(d api.Deed) pile {
	switch d.Kind {
	case api.DeedPour:
		w.put(d.To, pileOf(d.Lot, d.Mass))
		return pileOf(d.Lot, d.Mass)
	case api.DeedLay:
		w.holds[d.To] = append(w.holds[d.To], pileOf(d.Lot, d.Mass))
		return pileOf(d.Lot, d.Mass)
	case api.DeedDraw:
		return w.drawn(d.From, d.Mass)
	case api.DeedShift:
		moved := w.drawn(d.From, d.Mass)
		w.put(d.To, moved)
		return moved
	case api.DeedLose:
		return w.lost(d.From, d.Mass)
	}
	n := len(w.holds[d.From])
	top := w.holds[d.From][n-1]
	w.holds[d.From] = w.holds[d.From][:n-1]
	w.put(d.From, top)
	return noPile()
}

// play does all deeds, and returns the world and what is moved by each of them; or the index of the deed that has an error.
func play(lots []api.Lot, l []api.Deed) (w *world, moves []pile, e api.Errno) {
	w = &world{lots: lots}
	for _, d := range l {
		if e := w.fault(d); e != api.OK {
			return w, moves, e
		}
		moves = append(moves, w.do(d))
	}
	return w, moves, api.OK
}

// randomLots has up to so many lots, of few owners and grades.
func randomLots(r *rand.Rand, most int) []api.Lot {
	var l []api.Lot
	id := 0
	for range 1 + r.Intn(most) {
		id += 1 + r.Intn(3)*r.Intn(80)
		l = append(l, api.Lot{Id: id, Owner: 1 + r.Intn(3), Grade: 1 + r.Intn(9), Wet: r.Intn(api.MaxWet + 1)})
	}
	return l
}

// randomMass is a small one, or one of any size.
func randomMass(r *rand.Rand) int {
	switch r.Intn(8) {
	case 0:
		return 1 + r.Intn(api.MaxMass)
	case 1, 2:
		return 1 + r.Intn(100)
	}
	return 1 + r.Intn(9)
}

// randomDeed is often one that can be done.
func randomDeed(r *rand.Rand, w *world) api.Deed {
	const holds = 3
	lot, from, to := w.lots[r.Intn(len(w.lots))].Id, r.Intn(holds), r.Intn(holds)
	mass := randomMass(r)
	if held := w.all(from).sum(); held > 0 && r.Intn(4) > 0 {
		mass = 1 + r.Intn(held)
		if r.Intn(6) == 0 {
			mass = held
		}
	}
	switch r.Intn(8) {
	case 0, 1:
		return pour(lot, to, randomMass(r))
	case 2, 3:
		return lay(lot, to, randomMass(r))
	case 4:
		return draw(from, mass)
	case 5:
		return lose(from, mass)
	case 6:
		return shift(from, to, mass)
	}
	return mix(from)
}

// randomDeeds can all be done.
func randomDeeds(r *rand.Rand, lots []api.Lot, most int) []api.Deed {
	w := &world{lots: lots}
	var l []api.Deed
	for n := r.Intn(most + 1); len(l) < n; {
		if d := randomDeed(r, w); w.fault(d) == api.OK {
			w.do(d)
			l = append(l, d)
		}
	}
	return l
}

// history is lots and deeds that can all be done.
type history struct {
	lots  []api.Lot
	deeds []api.Deed
}

func randomHistories(seed int64, n int) []history {
	r := rand.New(rand.NewSource(seed))
	var l []history
	for range n {
		lots := randomLots(r, 6)
		l = append(l, history{lots, randomDeeds(r, lots, 25)})
	}
	return append(l, history{exampleLots(), exampleDeeds()}, history{}, history{lots: exampleLots()})
}

// randomStock is a valid one that deeds need not lead to.
func randomStock(r *rand.Rand) api.Stock {
	s := api.Stock{Lots: randomLots(r, 8)}
	for hold := range s.Holds {
		for range r.Intn(api.MaxHeaps+1) * r.Intn(2) {
			var h api.Heap
			for len(h.Parts) == 0 {
				for _, x := range s.Lots {
					if r.Intn(2) == 0 {
						h.Parts = append(h.Parts, api.Part{Lot: x.Id, Mass: min(randomMass(r), api.MaxMass/api.MaxHeaps/len(s.Lots))})
					}
				}
			}
			s.Holds[hold] = append(s.Holds[hold], h)
		}
	}
	return s
}

func randomStocks(seed int64, n int) []api.Stock {
	r := rand.New(rand.NewSource(seed))
	var l []api.Stock
	for range n {
		l = append(l, randomStock(r))
	}
	return append(l, api.Stock{}, stock(), stock(heap(1, 30, 2, 20)))
}

// greatestStock has as many lots, heaps and parts as may be, with long numbers.
func greatestStock() api.Stock {
	var s api.Stock
	for i := range api.MaxLots {
		s.Lots = append(s.Lots, api.Lot{Id: api.MaxLot - api.MaxLots + 1 + i, Owner: api.MaxOwners, Grade: api.MaxGrades, Wet: api.MaxWet})
	}
	for hold := range s.Holds {
		for n := range api.MaxHeaps {
			var h api.Heap
			for _, x := range s.Lots {
				mass := 1000000
				if n%2 == 1 {
					mass = 250000
				}
				h.Parts = append(h.Parts, api.Part{Lot: x.Id, Mass: mass})
			}
			s.Holds[hold] = append(s.Holds[hold], h)
		}
	}
	return s
}

// TestOfTheOracle: the chapter's examples, and that random stocks are valid.
func TestOfTheOracle(t *testing.T) {
	w, _, e := play(exampleLots(), exampleDeeds())
	want := api.Stock{Lots: exampleLots()}
	want.Holds[0] = []api.Heap{heap(1, 24, 2, 16)}
	want.Holds[4] = []api.Heap{heap(1, 6, 2, 4, 3, 10)}
	if e != api.OK || !sameStock(w.stock(), want) {
		t.Error(w.stock(), e)
	}
	for _, s := range append(randomStocks(1, 200), greatestStock()) {
		if e := parcel.Check(s); e != api.OK {
			t.Error(s, e)
		}
	}
	if m, e := parcel.Held(greatestStock(), 8); m != api.MaxMass || e != api.OK {
		t.Error(m, e)
	}
}
