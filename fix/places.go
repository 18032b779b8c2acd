package fix

import (
	"sort"

	"ullage/api"
)

// each reports whether so holds for each two neighbouring points of a valid table.
func each(t api.Table, so func(a, b api.Point) bool) bool {
	if CheckTable(t) != api.OK {
		return false
	}
	for i := 1; i < len(t.Points); i++ {
		if !so(t.Points[i-1], t.Points[i]) {
			return false
		}
	}
	return true
}

// Rising reports whether no curve falls from a point to a later one.
func Rising(t api.Table) bool {
	return each(t, func(a, b api.Point) bool { return b.Lo >= a.Hi })
}

// Falling reports whether no curve rises from a point to a later one.
func Falling(t api.Table) bool {
	return each(t, func(a, b api.Point) bool { return b.Hi <= a.Lo })
}

// stretch has the whole places of the piece at which so holds; its Lo is above its Hi if there are none. Along the piece, so may change only once.
func (p piece) stretch(so func(x int) bool) api.Range {
	a, b := p.from.X, p.to.X
	first := so(a)
	if first == so(b) {
		if first {
			return api.Range{Lo: a, Hi: b}
		}
		return api.Range{Lo: b + 1, Hi: b}
	}
	turn := a + sort.Search(b-a, func(i int) bool { return so(a+i) != first })
	if first {
		return api.Range{Lo: a, Hi: turn - 1}
	}
	return api.Range{Lo: turn, Hi: b}
}

// runs are runs found so far.
type runs struct{ list []api.Range }

// add adds the places of a piece that is behind those added. A run goes on from one piece to the next one exactly if both have it at the point between them.
func (l *runs) add(r api.Range) {
	last := len(l.list) - 1
	if last >= 0 && r.Lo == l.list[last].Hi {
		l.list[last].Hi = r.Hi
		return
	}
	l.list = append(l.list, r)
}

// collect returns the runs of the places that found has in the pieces of a valid table.
func collect(t api.Table, found func(p piece) api.Range) []api.Range {
	l := &runs{}
	for p := range pieces(t) {
		if r := found(p); r.Lo <= r.Hi {
			l.add(r)
		}
	}
	return l.list
}

// Where returns the places at which a value may lie in a range.
func Where(t api.Table, r api.Range) ([]api.Range, api.Errno) {
	if CheckTable(t) != api.OK {
		return nil, api.ErrTable
	}
	if CheckRange(r) != api.OK {
		return nil, api.ErrRange
	}
	return collect(t, func(p piece) api.Range {
		low := p.stretch(func(x int) bool { return p.at(x).Lo <= r.Hi })
		high := p.stretch(func(x int) bool { return p.at(x).Hi >= r.Lo })
		return common(low, high)
	}), api.OK
}

// Above returns the places at which each value is at least y.
func Above(t api.Table, y int) ([]api.Range, api.Errno) {
	if CheckTable(t) != api.OK {
		return nil, api.ErrTable
	}
	return collect(t, func(p piece) api.Range {
		return p.stretch(func(x int) bool { return p.at(x).Lo >= y })
	}), api.OK
}
