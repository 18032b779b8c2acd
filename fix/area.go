package fix

import "ullage/api"

// total is a sum: a whole number, and n / d.
type total struct{ whole, n, d int }

// add adds n / d. Few fractions may be added, because d becomes the product of theirs: a range of places cuts at most two pieces, and the others have none.
func (s *total) add(n, d int) {
	if n != 0 {
		s.n, s.d = s.n*d+n*s.d, s.d*d
	}
}

// down is the sum, rounded down.
func (s *total) down() int { return s.whole + floor(s.n, s.d) }

// line is a line over a piece: its values at both ends.
type line struct{ from, to int }

// addArea adds twice the area between a line over the piece and 0, from a to b. It divides before it multiplies by the climb of the line, because the product need not fit an int.
func (s *total) addArea(p piece, l line, a, b int) {
	a, b = max(a, p.from.X), min(b, p.to.X)
	if a >= b {
		return
	}
	dx, dy := p.to.X-p.from.X, l.to-l.from
	m := (b - a) * (b + a - 2*p.from.X)
	part := (m % dx) * dy
	whole := floor(part, dx)
	s.whole += 2*l.from*(b-a) + (m/dx)*dy + whole
	s.add(part-whole*dx, dx)
}

// Area returns bounds of twice the area below a curve.
func Area(t api.Table, a, b int) (lo, hi int, e api.Errno) {
	if e := checkPlaces(t, a, b); e != api.OK {
		return 0, 0, e
	}
	// The upper line is added upside down, so that rounding down rounds it up.
	low, high := &total{d: 1}, &total{d: 1}
	for p := range pieces(t) {
		low.addArea(p, line{p.from.Lo, p.to.Lo}, a, b)
		high.addArea(p, line{-p.from.Hi, -p.to.Hi}, a, b)
	}
	return low.down(), -high.down(), api.OK
}
