package cond_test

import (
	"math/big"
	"math/rand"
	"sort"
	"testing"

	"ullage/api"
	"ullage/fix"
)

// The oracle has what the chapter describes in its plainest form, angle by angle and with exact fractions; it asks only fix.

func span(lo, hi int) api.Range { return api.Range{Lo: lo, Hi: hi} }

func one(n int) api.Range { return span(n, n) }

func tableOf(points ...[3]int) api.Table {
	var t api.Table
	for _, p := range points {
		t.Points = append(t.Points, api.Point{X: p[0], Lo: p[1], Hi: p[2]})
	}
	return t
}

// exactly is a table without width: places, and values.
func exactly(l ...int) api.Table {
	var t api.Table
	for i := 0; i < len(l); i += 2 {
		t.Points = append(t.Points, api.Point{X: l[i], Lo: l[i+1], Hi: l[i+1]})
	}
	return t
}

// exampleS and exampleL are the ship and the load of the chapter's examples.
func exampleS() api.Ship {
	return api.Ship{
		Length: 100000,
		Drafts: exactly(1, 1000, 10, 10000), Heights: exactly(1, 8000, 10, 8000), Centres: exactly(1, 0, 10, 0), Trims: exactly(1, 100, 10, 100), Flood: exactly(1, 500, 10, 500),
		Cross: []api.Cross{{Tonnes: 1, Arms: exactly(0, 0, 400, 4000, 800, 4000)}, {Tonnes: 10, Arms: exactly(0, 0, 400, 4000, 800, 4000)}},
		Sine:  exactly(0, 0, 400, 500000, 800, 900000),
		Shift: exactly(0, 1000, 400, 800, 800, 600),
		Light: api.Weight{Mass: one(2000), Along: one(0), High: one(5000)},
	}
}

func exampleL() api.Load {
	return api.Load{Weights: []api.Weight{{Mass: one(2000), Along: one(1000), High: one(3000)}}, Shift: one(400000)}
}

// copyOf shares no memory with a ship.
func copyOf(s api.Ship) api.Ship {
	for _, t := range []*api.Table{&s.Drafts, &s.Heights, &s.Centres, &s.Trims, &s.Flood, &s.Sine, &s.Shift} {
		t.Points = append([]api.Point{}, t.Points...)
	}
	cross := []api.Cross{}
	for _, c := range s.Cross {
		c.Arms.Points = append([]api.Point{}, c.Arms.Points...)
		cross = append(cross, c)
	}
	s.Cross = cross
	return s
}

// flat has the value of a range at two places, and everywhere between them.
func flat(from, to int, v api.Range) api.Table {
	return tableOf([3]int{from, v.Lo, v.Hi}, [3]int{to, v.Lo, v.Hi})
}

// greatS is at all limits. It floats with any displacement that a table has.
func greatS() api.Ship {
	p, all := api.MaxPlace, span(-api.MaxPlace, api.MaxPlace)
	s := api.Ship{Length: p,
		Drafts: flat(0, api.MaxX, span(-api.MaxY, api.MaxY)), Heights: flat(0, api.MaxX, span(0, p)), Centres: flat(0, api.MaxX, all),
		Trims: flat(0, api.MaxX, span(1, api.MaxY)), Flood: flat(0, api.MaxX, span(0, api.MaxY)),
		Sine: flat(0, api.MaxAngle, span(0, 1000000)), Shift: flat(0, api.MaxAngle, span(0, 10000)),
		Light: api.Weight{Mass: span(1000, api.MaxKilos), Along: all, High: span(0, p)}}
	for i := range api.MaxCross {
		s.Cross = append(s.Cross, api.Cross{Tonnes: i * api.MaxX / (api.MaxCross - 1), Arms: flat(0, api.MaxAngle, all)})
	}
	return s
}

func inside(a, b api.Range) bool { return b.Lo <= a.Lo && a.Lo <= a.Hi && a.Hi <= b.Hi }

func whole(n int) *big.Rat { return new(big.Rat).SetInt64(int64(n)) }

func down(r *big.Rat) int {
	return int(new(big.Int).Div(r.Num(), r.Denom()).Int64()) // Div rounds down, as denominators are above 0
}

func up(r *big.Rat) int { return -down(new(big.Rat).Neg(r)) }

func sum(a, b *big.Rat) *big.Rat   { return new(big.Rat).Add(a, b) }
func minus(a, b *big.Rat) *big.Rat { return new(big.Rat).Sub(a, b) }
func times(a, b *big.Rat) *big.Rat { return new(big.Rat).Mul(a, b) }
func by(a, b *big.Rat) *big.Rat    { return new(big.Rat).Quo(a, b) }

func has(r api.Range, v *big.Rat) bool { return whole(r.Lo).Cmp(v) <= 0 && v.Cmp(whole(r.Hi)) <= 0 }

func ends(t api.Table) api.Range { return span(t.Points[0].X, t.Points[len(t.Points)-1].X) }

// wantCentre bisects: a place is not behind a centre exactly if it has no moment on the other side, whatever the masses.
func wantCentre(l []api.Weight, of func(w api.Weight) api.Range) api.Range {
	const far = api.MaxPlace
	least := func(sign int, place func(api.Range) int) int {
		return sort.Search(2*far+1, func(i int) bool {
			c, moment := i-far, 0
			for _, w := range l {
				lever := sign*place(of(w)) - (c + 1)
				moment += min(w.Mass.Lo*lever, w.Mass.Hi*lever)
			}
			return moment < 0
		}) - far
	}
	return span(least(1, func(r api.Range) int { return r.Lo }), -least(-1, func(r api.Range) int { return r.Hi }))
}

func alongOf(w api.Weight) api.Range { return w.Along }
func highOf(w api.Weight) api.Range  { return w.High }

func wantSum(l []api.Weight) api.Weight {
	var all api.Weight
	for _, w := range l {
		all.Mass.Lo += w.Mass.Lo
		all.Mass.Hi += w.Mass.Hi
	}
	all.Along, all.High = wantCentre(l, alongOf), wantCentre(l, highOf)
	return all
}

func wantTotal(s api.Ship, l api.Load) api.Weight {
	return wantSum(append([]api.Weight{s.Light}, l.Weights...))
}

// extremes asks each pair of ends.
func extremes(a, b api.Range, f func(x, y *big.Rat) *big.Rat) (least, greatest *big.Rat) {
	for _, x := range []int{a.Lo, a.Hi} {
		for _, y := range []int{b.Lo, b.Hi} {
			v := f(whole(x), whole(y))
			if least == nil || v.Cmp(least) < 0 {
				least = v
			}
			if greatest == nil || v.Cmp(greatest) > 0 {
				greatest = v
			}
		}
	}
	return least, greatest
}

func wantQuotient(a, b api.Range) api.Range {
	least, greatest := extremes(a, b, by)
	return span(down(least), up(greatest))
}

func wantTonnes(s api.Ship, l api.Load) api.Range {
	return wantQuotient(wantTotal(s, l).Mass, one(1000))
}

// wantOver is a range of a table over tonnes.
func wantOver(t api.Table, s api.Ship, l api.Load) (api.Range, api.Errno) {
	tonnes := wantTonnes(s, l)
	if !inside(tonnes, ends(t)) {
		return api.Range{}, api.ErrOut
	}
	return fix.Over(t, tonnes)
}

func wantTrim(s api.Ship, l api.Load) (api.Range, api.Errno) {
	c, e := wantOver(s.Centres, s, l)
	if e != api.OK {
		return api.Range{}, e
	}
	perMetre, e := wantOver(s.Trims, s, l)
	if e != api.OK {
		return api.Range{}, e
	}
	w := wantTotal(s, l)
	low, high := extremes(w.Mass, span(w.Along.Lo-c.Hi, w.Along.Hi-c.Lo), times)
	part := span(1000*perMetre.Lo, 1000*perMetre.Hi)
	least, _ := extremes(one(int(low.Num().Int64())), part, by)
	_, greatest := extremes(one(int(high.Num().Int64())), part, by)
	return span(down(least), up(greatest)), api.OK
}

func wantEnds(s api.Ship, l api.Load) (fore, aft api.Range, e api.Errno) {
	d, e := wantOver(s.Drafts, s, l)
	if e != api.OK {
		return api.Range{}, api.Range{}, e
	}
	t, e := wantTrim(s, l)
	if e != api.OK {
		return api.Range{}, api.Range{}, e
	}
	least, greatest := big.NewRat(int64(t.Lo), 2), big.NewRat(int64(t.Hi), 2)
	return span(d.Lo+down(least), d.Hi+up(greatest)), span(d.Lo-up(greatest), d.Hi-down(least)), api.OK
}

func wantRaised(s api.Ship, l api.Load) api.Range {
	w := wantTotal(s, l)
	q := wantQuotient(l.Surface, w.Mass)
	return span(w.High.Lo+q.Lo, w.High.Hi+q.Hi)
}

func wantMetric(s api.Ship, l api.Load) (api.Range, api.Errno) {
	h, e := wantOver(s.Heights, s, l)
	if e != api.OK {
		return api.Range{}, e
	}
	z := wantRaised(s, l)
	return span(h.Lo-z.Hi, h.Hi-z.Lo), api.OK
}

// overAngle has the tables over the angle.
func overAngle(s api.Ship) []api.Table {
	l := []api.Table{s.Sine, s.Shift}
	for _, c := range s.Cross {
		l = append(l, c.Arms)
	}
	return l
}

func wantAngles(s api.Ship) []int {
	var l []int
	tables := overAngle(s)
	for x := range api.MaxAngle + 1 {
		all := true
		for _, t := range tables {
			all = all && inside(one(x), ends(t))
		}
		if all {
			l = append(l, x)
		}
	}
	return l
}

// wantBends are the angles of the points of arms.
func wantBends(s api.Ship) []int {
	angles := wantAngles(s)
	bends := map[int]bool{angles[0]: true, angles[len(angles)-1]: true}
	for _, t := range overAngle(s) {
		for _, p := range t.Points {
			bends[p.X] = true
		}
	}
	var l []int
	for _, x := range angles {
		if bends[x] {
			l = append(l, x)
		}
	}
	return l
}

func atOf(t api.Table, x int) api.Range {
	r, e := fix.At(t, x)
	if e != api.OK {
		panic("not a place")
	}
	return r
}

// wantTable makes a table of values, unless one is too great.
func wantTable(s api.Ship, value func(x int) api.Range) (api.Table, api.Errno) {
	var t api.Table
	for _, x := range wantBends(s) {
		r := value(x)
		if r.Lo < -api.MaxY || r.Hi > api.MaxY {
			return api.Table{}, api.ErrBig
		}
		t.Points = append(t.Points, api.Point{X: x, Lo: r.Lo, Hi: r.Hi})
	}
	return t, api.OK
}

func wantRighting(s api.Ship, l api.Load) (api.Table, api.Errno) {
	if len(wantBends(s)) > api.MaxPoints {
		return api.Table{}, api.ErrLong
	}
	tonnes := wantTonnes(s, l)
	if tonnes.Lo < s.Cross[0].Tonnes || tonnes.Hi > s.Cross[len(s.Cross)-1].Tonnes {
		return api.Table{}, api.ErrOut
	}
	return wantTable(s, func(x int) api.Range {
		var arms api.Table
		for _, c := range s.Cross {
			r := atOf(c.Arms, x)
			arms.Points = append(arms.Points, api.Point{X: c.Tonnes, Lo: r.Lo, Hi: r.Hi})
		}
		k, e := fix.Over(arms, tonnes)
		if e != api.OK {
			panic("no arms")
		}
		least, greatest := extremes(wantRaised(s, l), atOf(s.Sine, x), times)
		million := whole(1000000)
		return span(k.Lo-up(by(greatest, million)), k.Hi-down(by(least, million)))
	})
}

func wantHeeling(s api.Ship, l api.Load) (api.Table, api.Errno) {
	if len(wantBends(s)) > api.MaxPoints {
		return api.Table{}, api.ErrLong
	}
	a := wantQuotient(l.Shift, wantTotal(s, l).Mass)
	return wantTable(s, func(x int) api.Range {
		r := atOf(s.Shift, x)
		return span(down(big.NewRat(int64(a.Lo*r.Lo), 1000)), up(big.NewRat(int64(a.Hi*r.Hi), 1000)))
	})
}

func wantMargin(s api.Ship, l api.Load) (api.Table, api.Errno) {
	righting, e := wantRighting(s, l)
	if e != api.OK {
		return api.Table{}, e
	}
	heeling, e := wantHeeling(s, l)
	if e != api.OK {
		return api.Table{}, e
	}
	return wantTable(s, func(x int) api.Range {
		a, b := atOf(righting, x), atOf(heeling, x)
		return span(a.Lo-b.Hi, a.Hi-b.Lo)
	})
}

func wantHeel(s api.Ship, l api.Load) (api.Range, api.Errno) {
	m, e := wantMargin(s, l)
	if e != api.OK {
		return api.Range{}, e
	}
	from := -1
	for _, x := range wantAngles(s) {
		r := atOf(m, x)
		if from < 0 && r.Hi >= 0 {
			from = x
		}
		if r.Lo >= 0 {
			return span(from, x), api.OK
		}
	}
	return api.Range{}, api.ErrNone
}

func wantEnd(s api.Ship, l api.Load, most int) (int, api.Errno) {
	flood, e := wantOver(s.Flood, s, l)
	if e != api.OK {
		return 0, e
	}
	angles := wantAngles(s)
	return min(most, flood.Lo, angles[len(angles)-1]), api.OK
}

// wantFrom is from the heel to the end, with the margin; ErrNone if the end is not so far behind the heel.
func wantFrom(s api.Ship, l api.Load, most, far int) (api.Table, api.Range, api.Errno) {
	heel, e := wantHeel(s, l)
	if e != api.OK {
		return api.Table{}, api.Range{}, e
	}
	end, e := wantEnd(s, l, most)
	if e != api.OK {
		return api.Table{}, api.Range{}, e
	}
	if end-heel.Hi < far {
		return api.Table{}, api.Range{}, api.ErrNone
	}
	m, _ := wantMargin(s, l)
	return m, span(heel.Hi, end), api.OK
}

func wantRest(s api.Ship, l api.Load, most int) (api.Range, api.Errno) {
	m, r, e := wantFrom(s, l, most, 1)
	if e != api.OK {
		return api.Range{}, e
	}
	lo, hi, e := fix.Area(m, r.Lo, r.Hi)
	return span(lo, hi), e
}

func wantWeakest(s api.Ship, l api.Load, most int) (int, api.Range, api.Errno) {
	m, r, e := wantFrom(s, l, most, 0)
	if e != api.OK {
		return 0, api.Range{}, e
	}
	x, least := r.Lo, atOf(m, r.Lo)
	for y := r.Lo; y <= r.Hi; y++ {
		if v := atOf(m, y); v.Lo < least.Lo {
			x, least = y, v
		}
	}
	return x, least, api.OK
}

// wantShown is the sum over the pieces of a certificate.
func wantShown(c api.Cert) int {
	n := 0
	for i := 1; i < len(c.Points); i++ {
		n += (c.Points[i-1].Lo + c.Points[i].Lo) * (c.Points[i].X - c.Points[i-1].X)
	}
	return n
}

// lineAt is the exact value, at an angle, of the straight lines between the lower ends of points.
func lineAt(l []api.Point, x int) *big.Rat {
	for i := range l {
		if l[i].X == x {
			return whole(l[i].Lo)
		}
		if i > 0 && x < l[i].X {
			part := big.NewRat(int64(x-l[i-1].X), int64(l[i].X-l[i-1].X))
			return sum(whole(l[i-1].Lo), times(part, whole(l[i].Lo-l[i-1].Lo)))
		}
	}
	panic("outside")
}

// isBelow tells of a certificate whose form is right whether it is one of a margin from r.Lo to r.Hi. It asks each whole angle: both lines bend at such ones only.
func isBelow(m api.Table, r api.Range, c api.Cert) bool {
	if c.Points[0].X != r.Lo || c.Points[len(c.Points)-1].X != r.Hi {
		return false
	}
	for x := r.Lo; x <= r.Hi; x++ {
		if lineAt(c.Points, x).Cmp(lineAt(m.Points, x)) > 0 {
			return false
		}
	}
	return true
}

// wantPlain is the plain certificate.
func wantPlain(m api.Table, r api.Range) api.Cert {
	var c api.Cert
	for x := r.Lo; x <= r.Hi; x++ {
		there := x == r.Lo || x == r.Hi
		for _, p := range m.Points {
			there = there || p.X == x
		}
		if there {
			y := atOf(m, x).Lo
			c.Points = append(c.Points, api.Point{X: x, Lo: y, Hi: y})
		}
	}
	return c
}

func expect[T comparable](t *testing.T, what string, got T, e api.Errno, want T, wantE api.Errno) {
	t.Helper()
	if got != want || e != wantE {
		t.Errorf("%s: got %v %d, want %v %d", what, got, e, want, wantE)
	}
}

func expectTable(t *testing.T, what string, got api.Table, e api.Errno, want api.Table, wantE api.Errno) {
	t.Helper()
	same := len(got.Points) == len(want.Points)
	for i := range got.Points {
		same = same && got.Points[i] == want.Points[i]
	}
	if !same || e != wantE {
		t.Errorf("%s: got %v %d, want %v %d", what, got, e, want, wantE)
	}
}

// randomSpan is a range of numbers from lo to hi, often one number.
func randomSpan(r *rand.Rand, lo, hi int) api.Range {
	a, b := lo+r.Intn(hi-lo+1), lo+r.Intn(hi-lo+1)
	if r.Intn(3) == 0 {
		b = a
	}
	return span(min(a, b), max(a, b))
}

// size tells how great a random ship and her load are.
type size struct {
	tonnes, angle, place, points int
	wide                         int // of tables
}

func sizes() []size {
	return []size{{20, 30, 50, 4, 3}, {20, 12, 9, 6, 0}, {3000, 300, 4000, 6, 40}, {60000, 900, 9000, 10, 500}, {900000, 900, api.MaxPlace, 12, api.MaxPlace}}
}

// randomTable has values from lo to hi, in ranges of at most wide and 1 numbers.
func randomTable(r *rand.Rand, from, to, most int, lo, hi, wide int) api.Table {
	xs := map[int]bool{from: true, to: true}
	for n := r.Intn(most); n > 0; n-- {
		xs[from+r.Intn(to-from+1)] = true
	}
	var l []int
	for x := range xs {
		l = append(l, x)
	}
	sort.Ints(l)
	var t api.Table
	for _, x := range l {
		y := lo + r.Intn(hi-lo+1)
		t.Points = append(t.Points, api.Point{X: x, Lo: y, Hi: min(hi, y+r.Intn(wide+1))})
	}
	return t
}

// randomShip floats mostly, if she has what randomLoad gives her.
func randomShip(r *rand.Rand, z size) api.Ship {
	tonnes := func(lo, hi int) api.Table {
		from := 0
		if r.Intn(8) == 0 {
			from = r.Intn(z.tonnes)
		}
		return randomTable(r, from, min(from+1+z.tonnes-r.Intn(z.tonnes/9+1), api.MaxX), z.points, lo, hi, z.wide)
	}
	angles := func(lo, hi int) api.Table {
		return randomTable(r, r.Intn(z.angle/4+1), z.angle-r.Intn(z.angle/3+1), z.points, lo, hi, z.wide)
	}
	s := api.Ship{Length: 1 + r.Intn(api.MaxPlace), Drafts: tonnes(-z.place, z.place), Heights: tonnes(0, z.place), Centres: tonnes(-z.place, z.place),
		Trims: tonnes(1, z.place), Flood: tonnes(0, 2*z.angle), Sine: angles(0, 1000000), Shift: angles(0, 10000),
		Light: randomWeight(r, z, span(1000, 100*z.tonnes))}
	if r.Intn(2) == 0 {
		s.Sine = angles(0, 1000)
	}
	for n := r.Intn(3); len(s.Cross) <= n; {
		s.Cross = append(s.Cross, api.Cross{Tonnes: r.Intn(3), Arms: angles(-z.place/4, z.place)})
	}
	for i := range s.Cross {
		if i > 0 {
			s.Cross[i].Tonnes = i*z.tonnes/(len(s.Cross)-1) + r.Intn(2)
		}
	}
	return s
}

func randomWeight(r *rand.Rand, z size, mass api.Range) api.Weight {
	return api.Weight{Mass: randomSpan(r, mass.Lo, max(mass.Hi, mass.Lo+9)), Along: randomSpan(r, -z.place, z.place), High: randomSpan(r, 0, z.place)}
}

func randomLoad(r *rand.Rand, z size) api.Load {
	l := api.Load{Surface: randomSpan(r, 0, z.tonnes*100), Shift: randomSpan(r, 0, z.tonnes*z.place)}
	n := r.Intn(5)
	if r.Intn(9) == 0 {
		n = api.MaxWeights
	}
	for range n {
		l.Weights = append(l.Weights, randomWeight(r, z, span(0, 1100*z.tonnes/(n+1))))
	}
	return l
}

// trial is a ship with a load.
type trial struct {
	s api.Ship
	l api.Load
}

// trials are ships with loads of all sizes.
func trials(seed int64, many int) []trial {
	r := rand.New(rand.NewSource(seed))
	l := []trial{{exampleS(), exampleL()}, {greatS(), api.Load{}}, {greatS(), api.Load{Surface: span(0, api.MaxMoment), Shift: span(0, api.MaxMoment)}}}
	for range many {
		for _, z := range sizes() {
			l = append(l, trial{randomShip(r, z), randomLoad(r, z)})
		}
	}
	return l
}
