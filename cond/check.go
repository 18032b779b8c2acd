package cond

import (
	"iter"

	"ullage/api"
	"ullage/fix"
)

// vessel is a ship, whose tables are found by methods.
type vessel api.Ship

func (v vessel) drafts() api.Table  { return v.Drafts }
func (v vessel) heights() api.Table { return v.Heights }
func (v vessel) centres() api.Table { return v.Centres }
func (v vessel) trims() api.Table   { return v.Trims }
func (v vessel) flood() api.Table   { return v.Flood }
func (v vessel) sine() api.Table    { return v.Sine }
func (v vessel) shift() api.Table   { return v.Shift }

// kind is what a table of a ship must be: where it is found, its greatest place, and its values.
type kind struct {
	find   func(v vessel) api.Table
	last   int
	values api.Range
}

// around has the numbers from -n to n.
func around(n int) api.Range { return api.Range{Lo: -n, Hi: n} }

// kinds has the tables that each ship has once.
func kinds() [7]kind {
	return [...]kind{
		{vessel.drafts, api.MaxX, around(api.MaxY)},
		{vessel.heights, api.MaxX, api.Range{Hi: api.MaxPlace}},
		{vessel.centres, api.MaxX, around(api.MaxPlace)},
		{vessel.trims, api.MaxX, api.Range{Lo: 1, Hi: api.MaxY}},
		{vessel.flood, api.MaxX, api.Range{Hi: api.MaxY}},
		{vessel.sine, api.MaxAngle, api.Range{Hi: 1000000}},
		{vessel.shift, api.MaxAngle, api.Range{Hi: 10000}},
	}
}

// within reports whether r has numbers, all of which are numbers of all.
func within(r, all api.Range) bool {
	return all.Lo <= r.Lo && r.Lo <= r.Hi && r.Hi <= all.Hi
}

// places are the places of a valid table.
func places(t api.Table) api.Range {
	return api.Range{Lo: t.Points[0].X, Hi: t.Points[len(t.Points)-1].X}
}

// bounds are the values that a curve may have at a point.
func bounds(p api.Point) api.Range { return api.Range{Lo: p.Lo, Hi: p.Hi} }

// isTable reports whether a table is valid, and has no place above last and no values but these.
func isTable(t api.Table, last int, values api.Range) bool {
	if fix.CheckTable(t) != api.OK || places(t).Hi > last {
		return false
	}
	for _, p := range t.Points {
		if !within(bounds(p), values) {
			return false
		}
	}
	return true
}

// areCurves reports whether cross curves are valid.
func areCurves(l []api.Cross) bool {
	if len(l) < 1 || len(l) > api.MaxCross {
		return false
	}
	last := -1
	for _, c := range l {
		if c.Tonnes <= last || c.Tonnes > api.MaxX || !isTable(c.Arms, api.MaxAngle, around(api.MaxPlace)) {
			return false
		}
		last = c.Tonnes
	}
	return true
}

// overAngle yields the tables over the angle.
func (v vessel) overAngle() iter.Seq[api.Table] {
	return func(yield func(api.Table) bool) {
		for _, c := range v.Cross {
			if !yield(c.Arms) {
				return
			}
		}
		if yield(v.Sine) {
			yield(v.Shift)
		}
	}
}

// angles are the angles of a ship whose tables are valid; its Lo is above its Hi if there are none.
func (v vessel) angles() api.Range {
	all := api.Range{Hi: api.MaxAngle}
	for t := range v.overAngle() {
		p := places(t)
		all = api.Range{Lo: max(all.Lo, p.Lo), Hi: min(all.Hi, p.Hi)}
	}
	return all
}

// CheckShip reports whether a ship is valid.
func CheckShip(s api.Ship) api.Errno {
	if s.Length < 1 || s.Length > api.MaxPlace {
		return api.ErrShip
	}
	v := vessel(s)
	for _, k := range kinds() {
		if !isTable(k.find(v), k.last, k.values) {
			return api.ErrShip
		}
	}
	if !areCurves(s.Cross) || CheckWeight(s.Light) != api.OK || s.Light.Mass.Lo < 1000 {
		return api.ErrShip
	}
	if all := v.angles(); all.Lo > all.Hi {
		return api.ErrShip
	}
	return api.OK
}

// CheckWeight reports whether a weight is valid.
func CheckWeight(w api.Weight) api.Errno {
	if !within(w.Mass, api.Range{Hi: api.MaxKilos}) || !within(w.Along, around(api.MaxPlace)) || !within(w.High, api.Range{Hi: api.MaxPlace}) {
		return api.ErrWeight
	}
	return api.OK
}

// CheckLoad reports whether a load is valid.
func CheckLoad(l api.Load) api.Errno {
	if len(l.Weights) > api.MaxWeights {
		return api.ErrLoad
	}
	for _, w := range l.Weights {
		if CheckWeight(w) != api.OK {
			return api.ErrLoad
		}
	}
	moments := api.Range{Hi: api.MaxMoment}
	if !within(l.Surface, moments) || !within(l.Shift, moments) {
		return api.ErrLoad
	}
	return api.OK
}
