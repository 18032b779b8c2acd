package fix

import (
	"iter"
	"slices"

	"ullage/api"
)

// bounds are the values that a curve may have at a point.
func bounds(p api.Point) api.Range { return api.Range{Lo: p.Lo, Hi: p.Hi} }

// CheckTable reports whether a table is valid.
func CheckTable(t api.Table) api.Errno {
	if len(t.Points) < 1 || len(t.Points) > api.MaxPoints {
		return api.ErrTable
	}
	last := -1
	for _, p := range t.Points {
		if p.X <= last || p.X > api.MaxX || !within(bounds(p), around(api.MaxY)) {
			return api.ErrTable
		}
		last = p.X
	}
	return api.OK
}

// domain are the places of a valid table.
func domain(t api.Table) api.Range {
	return api.Range{Lo: t.Points[0].X, Hi: t.Points[len(t.Points)-1].X}
}

// checkPlaces returns ErrTable, or ErrOut unless the places from a to b are some, and are in the domain.
func checkPlaces(t api.Table, a, b int) api.Errno {
	if CheckTable(t) != api.OK {
		return api.ErrTable
	}
	if !within(api.Range{Lo: a, Hi: b}, domain(t)) {
		return api.ErrOut
	}
	return api.OK
}

// CheckCurve reports whether numbers at the points of a table lie within it.
func CheckCurve(t api.Table, c []int) api.Errno {
	if CheckTable(t) != api.OK {
		return api.ErrTable
	}
	if len(c) != len(t.Points) {
		return api.ErrOut
	}
	for i, p := range t.Points {
		if !Has(bounds(p), c[i]) {
			return api.ErrOut
		}
	}
	return api.OK
}

// piece is a part of a table between neighbouring points, where both lines are straight.
type piece struct{ from, to api.Point }

// pieces yields the pieces of a valid table in order. A table of one point has one piece, which has only this point.
func pieces(t api.Table) iter.Seq[piece] {
	return func(yield func(piece) bool) {
		p := t.Points
		if len(p) == 1 {
			p = []api.Point{p[0], p[0]}
		}
		for i := 1; i < len(p); i++ {
			if !yield(piece{p[i-1], p[i]}) {
				return
			}
		}
	}
}

// rise is how much a line that climbs by dy over dx has climbed at x, rounded down. Where a piece has only one point, dx, dy and x are 0.
func rise(x, dx, dy int) int { return floor(x*dy, max(dx, 1)) }

// at is the range of the values at a place of the piece.
func (p piece) at(x int) api.Range {
	x -= p.from.X
	dx := p.to.X - p.from.X
	return api.Range{
		Lo: p.from.Lo + rise(x, dx, p.to.Lo-p.from.Lo),
		Hi: p.from.Hi - rise(x, dx, p.from.Hi-p.to.Hi),
	}
}

// at is the range of the values at a place of the domain.
func at(t api.Table, x int) api.Range {
	for p := range pieces(t) {
		if x <= p.to.X {
			return p.at(x)
		}
	}
	return api.Range{}
}

// At is the range of the values at a place.
func At(t api.Table, x int) (api.Range, api.Errno) {
	if e := checkPlaces(t, x, x); e != api.OK {
		return api.Range{}, e
	}
	return at(t, x), api.OK
}

// corners are the places a and b, and those of the points between them: where the lines may bend, or end.
func corners(t api.Table, a, b int) []int {
	l := []int{a}
	for _, p := range t.Points {
		if a < p.X && p.X < b {
			l = append(l, p.X)
		}
	}
	if a < b {
		l = append(l, b)
	}
	return l
}

// visit hands the range of the values at each of some places to take.
func visit(t api.Table, places []int, take func(api.Range)) {
	for _, x := range places {
		take(at(t, x))
	}
}

// Over is the range of the values over a range of places.
func Over(t api.Table, r api.Range) (api.Range, api.Errno) {
	if CheckTable(t) != api.OK {
		return api.Range{}, api.ErrTable
	}
	if CheckRange(r) != api.OK {
		return api.Range{}, api.ErrRange
	}
	if e := checkPlaces(t, r.Lo, r.Hi); e != api.OK {
		return api.Range{}, e
	}
	// Straight lines are least, and greatest, at their ends.
	seen := &growing{}
	visit(t, corners(t, r.Lo, r.Hi), seen.take)
	return seen.all, api.OK
}

// build makes a table of the values at places.
func build(places []int, value func(x int) (api.Range, api.Errno)) (api.Table, api.Errno) {
	if len(places) > api.MaxPoints {
		return api.Table{}, api.ErrLong
	}
	var l []api.Point
	for _, x := range places {
		r, e := value(x)
		if e != api.OK {
			return api.Table{}, e
		}
		if !within(r, around(api.MaxY)) {
			return api.Table{}, api.ErrBig
		}
		l = append(l, api.Point{X: x, Lo: r.Lo, Hi: r.Hi})
	}
	return api.Table{Points: l}, api.OK
}

// combine makes a table over the places of both tables, of what with makes of their values.
func combine(t, u api.Table, with func(a, b api.Range) (api.Range, api.Errno)) (api.Table, api.Errno) {
	if CheckTable(t) != api.OK || CheckTable(u) != api.OK {
		return api.Table{}, api.ErrTable
	}
	both := common(domain(t), domain(u))
	if both.Lo > both.Hi {
		return api.Table{}, api.ErrOut
	}
	places := append(corners(t, both.Lo, both.Hi), corners(u, both.Lo, both.Hi)...)
	slices.Sort(places)
	return build(slices.Compact(places), func(x int) (api.Range, api.Errno) {
		return with(at(t, x), at(u, x))
	})
}

// Plus is a table that bounds the sums of two curves.
func Plus(t, u api.Table) (api.Table, api.Errno) { return combine(t, u, Add) }

// Either is a table that bounds each curve that one of two tables bounds.
func Either(t, u api.Table) (api.Table, api.Errno) { return combine(t, u, Hull) }

// Times is a table that bounds n / d times a curve.
func Times(t api.Table, n, d int) (api.Table, api.Errno) {
	if CheckTable(t) != api.OK {
		return api.Table{}, api.ErrTable
	}
	all := domain(t)
	return build(corners(t, all.Lo, all.Hi), func(x int) (api.Range, api.Errno) {
		return Scale(at(t, x), n, d)
	})
}

// Cut is the part of a table between two places.
func Cut(t api.Table, a, b int) (api.Table, api.Errno) {
	if e := checkPlaces(t, a, b); e != api.OK {
		return api.Table{}, e
	}
	return build(corners(t, a, b), func(x int) (api.Range, api.Errno) {
		return at(t, x), api.OK
	})
}
