package plan_test

import (
	"cmp"
	"math/big"
	"math/rand"
	"slices"

	"ullage/api"
	"ullage/plan"
)

// exampleW is the work of the chapter's examples.
func exampleW() api.Work {
	return api.Work{
		Change: 10,
		Jobs:   []api.Job{{Cost: 5, Spout: 0, Minutes: 60}, {Cost: 7, Spout: 1, Minutes: 30}, {Cost: 1, Spout: 0, Minutes: 20, Dry: true}},
		Legs:   legs(0, 1, 1, 2, 1, 6, 3, 4, 0, 2, 2, 1),
	}
}

// legs are such, from pairs of From and Add.
func legs(l ...int) []api.Leg {
	var all []api.Leg
	for pair := range slices.Chunk(l, 2) {
		all = append(all, api.Leg{From: pair[0], Add: pair[1]})
	}
	return all
}

// withLegs is the work with these legs alone.
func withLegs(w api.Work, l ...int) api.Work {
	w.Legs = legs(l...)
	return w
}

// spans are such, from pairs of From and To.
func spans(l ...int) []api.Span {
	var all []api.Span
	for pair := range slices.Chunk(l, 2) {
		all = append(all, api.Span{From: pair[0], To: pair[1]})
	}
	return all
}

func planOf(l ...int) api.Plan          { return api.Plan{Legs: l} }
func span(lo, hi int) api.Range         { return api.Range{Lo: lo, Hi: hi} }
func one(n int) api.Range               { return span(n, n) }
func around(n int) api.Range            { return span(-n, n) }
func ranges(l ...api.Range) []api.Range { return l }

// allDone is the mask of all jobs.
func allDone(w api.Work) int { return 1<<len(w.Jobs) - 1 }

// jobsIn is how many jobs a mask has.
func jobsIn(mask int) int {
	n := 0
	for ; mask > 0; mask /= 2 {
		n += mask % 2
	}
	return n
}

// plansFrom has all chains of legs from a mask to all jobs, in order: each leg is tried at each place.
func plansFrom(w api.Work, done int) [][]int {
	var all [][]int
	var try func(done int, l []int)
	try = func(done int, l []int) {
		if done == allDone(w) {
			all = append(all, slices.Clone(l))
		}
		for i, x := range w.Legs {
			if x.From == done {
				try(done+x.Add, append(l, i))
			}
		}
	}
	try(done, nil)
	return all
}

func plansOf(w api.Work) [][]int { return plansFrom(w, 0) }

// spoutsIn is the set of spouts of the jobs of a mask.
func spoutsIn(w api.Work, mask int) map[int]bool {
	spouts := map[int]bool{}
	for j, job := range w.Jobs {
		if mask>>j%2 == 1 {
			spouts[job.Spout] = true
		}
	}
	return spouts
}

// numberOf is a set of spouts as a number.
func numberOf(spouts map[int]bool) int {
	n := 0
	for s := range spouts {
		n += 1 << s
	}
	return n
}

// handlingOf is the handling of legs, one after the other, behind one with these spouts.
func handlingOf(w api.Work, had map[int]bool, l []int) int {
	sum := 0
	for _, i := range l {
		has := spoutsIn(w, w.Legs[i].Add)
		for s := range has {
			if !had[s] {
				sum += w.Change
			}
		}
		for j, job := range w.Jobs {
			if w.Legs[i].Add>>j%2 == 1 {
				sum += job.Cost
			}
		}
		had = has
	}
	return sum
}

func costOf(w api.Work, l []int) int { return handlingOf(w, nil, l) }

// bestOf is the first one of plans with the least handling; nil of none.
func bestOf(w api.Work, plans [][]int) []int {
	if len(plans) == 0 {
		return nil
	}
	return slices.MinFunc(plans, func(a, b []int) int { return cmp.Compare(costOf(w, a), costOf(w, b)) })
}

// wantPotentials tries all chains, and all that goes on behind each.
func wantPotentials(w api.Work) []api.Potential {
	var l []api.Potential
	var try func(done int, spouts map[int]bool)
	try = func(done int, spouts map[int]bool) {
		p := api.Potential{Done: done, Spouts: numberOf(spouts), Least: 100000000}
		for _, more := range plansFrom(w, done) {
			p.Least = min(p.Least, handlingOf(w, spouts, more))
		}
		for _, x := range w.Legs {
			if x.From == done {
				try(done+x.Add, spoutsIn(w, x.Add))
			}
		}
		l = append(l, p)
	}
	try(0, nil)
	slices.SortFunc(l, func(a, b api.Potential) int {
		return cmp.Or(cmp.Compare(a.Done, b.Done), cmp.Compare(a.Spouts, b.Spouts))
	})
	return slices.Compact(l)
}

// findPotential returns what potentials tell of a state.
func findPotential(l []api.Potential, done, spouts int) (int, bool) {
	for _, p := range l {
		if p.Done == done && p.Spouts == spouts {
			return p.Least, true
		}
	}
	return 0, false
}

// wantBound reports whether potentials bound work, word by word.
func wantBound(w api.Work, l []api.Potential) bool {
	for i, p := range l {
		if p.Done < 0 || p.Done > allDone(w) || p.Spouts < 0 || p.Spouts > 15 || p.Least < -1000000000 || p.Least > 1000000000 {
			return false
		}
		if i > 0 && (l[i-1].Done > p.Done || l[i-1].Done == p.Done && l[i-1].Spouts >= p.Spouts) {
			return false
		}
		had := map[int]bool{}
		for s := range 4 {
			had[s] = p.Spouts>>s%2 == 1
		}
		for k, x := range w.Legs {
			if x.From != p.Done {
				continue
			}
			rest, ok := findPotential(l, x.From+x.Add, numberOf(spoutsIn(w, x.Add)))
			if !ok || p.Least > handlingOf(w, had, []int{k})+rest {
				return false
			}
		}
		if p.Done == allDone(w) && p.Least > 0 {
			return false
		}
	}
	_, ok := findPotential(l, 0, 0)
	return ok
}

// chainsFrom has the masks to which chains of legs lead from masks, rising: legs are added until nothing changes.
func chainsFrom(w api.Work, begin func(mask int) bool) []int {
	reached := map[int]bool{}
	for mask := range allDone(w) + 1 {
		if begin(mask) {
			reached[mask] = true
		}
	}
	for grown := true; grown; {
		grown = false
		for _, x := range w.Legs {
			if reached[x.From] && !reached[x.From+x.Add] {
				reached[x.From+x.Add] = true
				grown = true
			}
		}
	}
	var l []int
	for mask := range reached {
		l = append(l, mask)
	}
	slices.Sort(l)
	return l
}

// wantBlocked tries all pairs of numbers, the nearest ones first.
func wantBlocked(w api.Work) (api.Block, bool) {
	for gap := 1; gap <= len(w.Jobs); gap++ {
		for from := 0; from+gap <= len(w.Jobs); from++ {
			l := chainsFrom(w, func(mask int) bool { return jobsIn(mask) <= from })
			if !slices.ContainsFunc(l, func(mask int) bool { return jobsIn(mask) >= from+gap }) {
				return api.Block{From: from, To: from + gap, Closed: l}, true
			}
		}
	}
	return api.Block{}, false
}

// wantRight reports whether a block is right, word by word.
func wantRight(w api.Work, b api.Block) bool {
	if b.From < 0 || b.From >= b.To || b.To > len(w.Jobs) {
		return false
	}
	for i, mask := range b.Closed {
		if mask < 0 || mask > allDone(w) || i > 0 && b.Closed[i-1] >= mask || jobsIn(mask) >= b.To {
			return false
		}
		for _, x := range w.Legs {
			if x.From == mask && !slices.Contains(b.Closed, x.From+x.Add) {
				return false
			}
		}
	}
	for mask := range allDone(w) + 1 {
		if jobsIn(mask) <= b.From && !slices.Contains(b.Closed, mask) {
			return false
		}
	}
	return true
}

// wantWithout builds masks anew, job by job.
func wantWithout(w api.Work, job int) api.Work {
	left := func(mask int) int {
		n, bit := 0, 1
		for j := range w.Jobs {
			if j == job {
				continue
			}
			if mask>>j%2 == 1 {
				n += bit
			}
			bit *= 2
		}
		return n
	}
	u := api.Work{Change: w.Change}
	for j, x := range w.Jobs {
		if j != job {
			u.Jobs = append(u.Jobs, x)
		}
	}
	for _, x := range w.Legs {
		y := api.Leg{From: left(x.From), Add: left(x.Add)}
		if y.Add > 0 && !slices.Contains(u.Legs, y) {
			u.Legs = append(u.Legs, y)
		}
	}
	return u
}

// serves reports whether a minute serves a leg.
func serves(w api.Work, leg int, b api.Berth, minute int) bool {
	in := func(l []api.Span) bool {
		return slices.ContainsFunc(l, func(s api.Span) bool { return s.From <= minute && minute < s.To })
	}
	wet := false
	for j, job := range w.Jobs {
		wet = wet || job.Dry && w.Legs[leg].Add>>j%2 == 1
	}
	return in(b.Open) && !(wet && in(b.Rain))
}

// minutesOf are the minutes of a leg.
func minutesOf(w api.Work, leg int) int {
	n := 0
	for j, job := range w.Jobs {
		if w.Legs[leg].Add>>j%2 == 1 {
			n = max(n, job.Minutes)
		}
	}
	return n
}

// wantTimes goes from minute to minute; false if there are not so many.
func wantTimes(w api.Work, p api.Plan, b api.Berth, from, end int) ([]api.Span, bool) {
	var l []api.Span
	minute := from
	for _, leg := range p.Legs {
		x := api.Span{From: -1}
		for left := minutesOf(w, leg); left > 0; minute++ {
			if minute == end {
				return nil, false
			}
			if serves(w, leg, b, minute) {
				if x.From < 0 {
					x.From = minute
				}
				x.To = minute + 1
				left--
			}
		}
		l = append(l, x)
	}
	return l, true
}

// wantServed reports whether spans, as many as legs, have what the legs need.
func wantServed(w api.Work, p api.Plan, b api.Berth, l []api.Span) bool {
	for i, x := range l {
		n := 0
		for minute := x.From; minute < x.To; minute++ {
			if serves(w, p.Legs[i], b, minute) {
				n++
			}
		}
		if x.From < 0 || x.From >= x.To || x.To > 1000000 || i > 0 && x.From < l[i-1].To || n < minutesOf(w, p.Legs[i]) {
			return false
		}
	}
	return true
}

// strains returns the exact shear and bending moment at each cut, for loads of sections.
func strains(b api.Beam, loads []*big.Rat) (shear, bending []*big.Rat) {
	for cut := range len(loads) - 1 {
		sum := new(big.Rat)
		for _, x := range loads[:cut+1] {
			sum.Add(sum, x)
		}
		shear = append(shear, sum)
		moment := new(big.Rat)
		for i := range cut + 1 {
			moment.Add(moment, new(big.Rat).Mul(shear[i], big.NewRat(int64(b.Sections[i].Length), 1000)))
		}
		bending = append(bending, moment)
	}
	return shear, bending
}

// part is a fraction of a job that is done; pick takes a number of a range.
type part func(job int) *big.Rat
type pick func(x api.Range) *big.Rat

func lowest(x api.Range) *big.Rat  { return big.NewRat(int64(x.Lo), 1) }
func highest(x api.Range) *big.Rat { return big.NewRat(int64(x.Hi), 1) }

// whole are the parts of jobs of a mask that is done.
func whole(mask int) part {
	return func(job int) *big.Rat { return big.NewRat(int64(mask>>job%2), 1) }
}

// loadsFor are loads of the sections, with parts of the jobs.
func loadsFor(b api.Beam, done part, choose pick) []*big.Rat {
	var l []*big.Rat
	for s, x := range b.Sections {
		sum := choose(x.Base)
		for j, loads := range b.Loads {
			sum = new(big.Rat).Add(sum, new(big.Rat).Mul(done(j), choose(loads[s])))
		}
		l = append(l, sum)
	}
	return l
}

// roundDown and roundUp are whole numbers beside a fraction.
func roundDown(x *big.Rat) int {
	return int(new(big.Int).Div(x.Num(), x.Denom()).Int64())
}

func roundUp(x *big.Rat) int { return -roundDown(new(big.Rat).Neg(x)) }

// rounded are the least ranges of whole numbers that have what lies between.
func rounded(lo, hi []*big.Rat) []api.Range {
	var l []api.Range
	for i := range lo {
		l = append(l, span(roundDown(lo[i]), roundUp(hi[i])))
	}
	return l
}

// wantStrains are the ranges of Shear and Bending.
func wantStrains(b api.Beam, done int) (shear, bending []api.Range) {
	s1, b1 := strains(b, loadsFor(b, whole(done), lowest))
	s2, b2 := strains(b, loadsFor(b, whole(done), highest))
	return rounded(s1, s2), rounded(b1, b2)
}

// allIn reports whether exact numbers lie within ranges.
func allIn(l []*big.Rat, limits []api.Range) bool {
	for i, x := range l {
		if x.Cmp(lowest(limits[i])) < 0 || x.Cmp(highest(limits[i])) > 0 {
			return false
		}
	}
	return true
}

// wantKeeps takes the exact strains for a mask.
func wantKeeps(b api.Beam, done int) bool {
	for _, choose := range []pick{lowest, highest} {
		s, m := strains(b, loadsFor(b, whole(done), choose))
		if !allIn(s, b.Shear) || !allIn(m, b.Bending) {
			return false
		}
	}
	return true
}

// wantLegs goes through all sets of jobs.
func wantLegs(b api.Beam, jobs []api.Job) []api.Leg {
	var l []api.Leg
	for from := range 1 << len(jobs) {
		for add := 1; add < 1<<len(jobs); add++ {
			ok := jobsIn(add) <= 2 && from&add == 0 && len(spoutsIn(api.Work{Jobs: jobs}, add)) == jobsIn(add)
			for part := range add + 1 {
				if ok && part&add == part {
					ok = wantKeeps(b, from+part)
				}
			}
			if ok {
				l = append(l, api.Leg{From: from, Add: add})
			}
		}
	}
	return l
}

// legsOf are all valid legs for jobs.
func legsOf(jobs []api.Job) []api.Leg {
	return wantLegs(calmBeam(len(jobs)), jobs)
}

// calmBeam is a beam for so many jobs without loads.
func calmBeam(jobs int) api.Beam {
	b := api.Beam{Sections: []api.Section{{Length: 1000}, {Length: 1000}}, Shear: ranges(one(0)), Bending: ranges(one(0))}
	for range jobs {
		b.Loads = append(b.Loads, ranges(one(0), one(0)))
	}
	return b
}

// randomWork is valid work of few jobs.
func randomWork(r *rand.Rand) api.Work {
	w := api.Work{Change: r.Intn(6)}
	for range 1 + r.Intn(4) {
		w.Jobs = append(w.Jobs, api.Job{Cost: r.Intn(6), Spout: r.Intn(1 + r.Intn(4)), Minutes: 1 + r.Intn(4), Dry: r.Intn(2) == 0})
	}
	rare := 1 + r.Intn(4)
	for _, l := range legsOf(w.Jobs) {
		if r.Intn(4) >= rare-1 {
			w.Legs = append(w.Legs, l)
		}
	}
	r.Shuffle(len(w.Legs), func(i, j int) { w.Legs[i], w.Legs[j] = w.Legs[j], w.Legs[i] })
	return w
}

// randomSpans are valid spans of few minutes.
func randomSpans(r *rand.Rand, n int) []api.Span {
	var l []api.Span
	at := r.Intn(4)
	for range r.Intn(n + 1) {
		x := api.Span{From: at, To: at + 1 + r.Intn(4)}
		l = append(l, x)
		at = x.To + 1 + r.Intn(3)
	}
	return l
}

// randomRange has few numbers, near 0.
func randomRange(r *rand.Rand, wide int) api.Range {
	lo := r.Intn(2*wide+1) - wide
	return span(lo, lo+r.Intn(1+r.Intn(wide+1)))
}

// randomBeam is a beam for some jobs whose limits some masks keep.
func randomBeam(r *rand.Rand, jobs int) api.Beam {
	var b api.Beam
	for range 2 + r.Intn(3) {
		b.Sections = append(b.Sections, api.Section{Length: 1 + r.Intn(3000), Base: randomRange(r, 10)})
	}
	for range jobs {
		var l []api.Range
		for range b.Sections {
			l = append(l, randomRange(r, 12))
		}
		b.Loads = append(b.Loads, l)
	}
	for cut := range len(b.Sections) - 1 {
		wide := 25 * (cut + 1)
		b.Shear = append(b.Shear, span(-r.Intn(wide)-5, 5+r.Intn(wide)))
		b.Bending = append(b.Bending, span(-r.Intn(3*wide)-5, 5+r.Intn(3*wide)))
	}
	return b
}

// trials calls do with random work.
func trials(seed int64, n int, do func(r *rand.Rand, w api.Work)) {
	r := rand.New(rand.NewSource(seed))
	for range n {
		do(r, randomWork(r))
	}
}

// sameWork takes nil and empty lists for the same.
func sameWork(a, b api.Work) bool {
	return a.Change == b.Change && slices.Equal(a.Jobs, b.Jobs) && slices.Equal(a.Legs, b.Legs)
}

func sameBlock(a, b api.Block) bool {
	return a.From == b.From && a.To == b.To && slices.Equal(a.Closed, b.Closed)
}

// hasPlan reports whether the program has a plan.
func hasPlan(w api.Work) bool {
	_, e := plan.Best(w)
	return e == api.OK
}
