package hold

import (
	"slices"

	"ullage/api"
	"ullage/fix"
)

// mix is the density of what two fills have. An empty hold has none.
func mix(a, b api.Range) api.Range {
	if a == (api.Range{}) {
		return b
	}
	if b == (api.Range{}) {
		return a
	}
	return hull(a, b)
}

// hull is the least range that has both of two valid ranges.
func hull(a, b api.Range) api.Range {
	r, _ := fix.Hull(a, b)
	return r
}

// moved is a hold behind grain was poured or drawn: it has the volume v, at an ullage of those that are among. A volume below 0 has no ullage.
func moved(h api.Hold, v, among, density api.Range) (api.Fill, api.Errno) {
	r, e := ullages(h, v)
	if e != api.OK {
		return api.Fill{}, e
	}
	if r, e = fix.Meet(r, among); e != api.OK {
		return api.Fill{}, api.ErrRoom
	}
	return api.Fill{Hold: h.Id, State: api.Partly, Ullage: r, Density: density}, api.OK
}

// Pour is a fill behind a mass that is poured.
func Pour(h api.Hold, f api.Fill, mass, density api.Range) (api.Fill, api.Errno) {
	if e := CheckFill(h, f); e != api.OK {
		return api.Fill{}, e
	}
	if e := checkMass(mass, density); e != api.OK {
		return api.Fill{}, e
	}
	if mass.Lo < 0 {
		return api.Fill{}, api.ErrArg
	}
	m := meaningOf(f)
	if m.pour != api.OK {
		return api.Fill{}, m.pour
	}
	had, more := m.volume(h, f), litres(mass, density)
	v := api.Range{Lo: had.Lo + more.Lo, Hi: had.Hi + more.Hi}
	rising := api.Range{Lo: places(h.Volume).Lo, Hi: m.surface(h, f).Hi}
	return moved(h, v, rising, mix(f.Density, density))
}

// Draw is a fill behind a mass that is drawn.
func Draw(h api.Hold, f api.Fill, mass api.Range) (api.Fill, api.Errno) {
	if e := CheckFill(h, f); e != api.OK {
		return api.Fill{}, e
	}
	if fix.CheckRange(mass) != api.OK {
		return api.Fill{}, api.ErrRange
	}
	if mass.Lo < 0 {
		return api.Fill{}, api.ErrArg
	}
	m := meaningOf(f)
	if m.draw != api.OK {
		return api.Fill{}, m.draw
	}
	had, gone := m.volume(h, f), litres(mass, f.Density)
	v := api.Range{Lo: max(had.Lo-gone.Hi, 0), Hi: had.Hi - gone.Lo}
	sinking := api.Range{Lo: m.surface(h, f).Lo, Hi: places(h.Volume).Hi}
	return moved(h, v, sinking, f.Density)
}

// Settle is a fill whose grain may have settled.
func Settle(h api.Hold, f api.Fill, drop int) (api.Fill, api.Errno) {
	if e := CheckFill(h, f); e != api.OK {
		return api.Fill{}, e
	}
	if e := meaningOf(f).settle; e != api.OK {
		return api.Fill{}, e
	}
	if drop < 0 || drop > api.MaxX {
		return api.Fill{}, api.ErrArg
	}
	f.Ullage.Hi = min(f.Ullage.Hi+drop, places(h.Volume).Hi)
	return f, api.OK
}

// Between returns fills that cover each instant between two fills.
func Between(h api.Hold, f, g api.Fill) ([]api.Fill, api.Errno) {
	if e := CheckFill(h, f); e != api.OK {
		return nil, e
	}
	if e := CheckFill(h, g); e != api.OK {
		return nil, e
	}
	way := api.Fill{Hold: h.Id, State: f.State, Ullage: hull(f.Ullage, g.Ullage), Density: mix(f.Density, g.Density)}
	if f.State == g.State {
		return []api.Fill{way}, api.OK
	}
	way.State = api.Partly
	way.Ullage = hull(meaningOf(f).surface(h, f), meaningOf(g).surface(h, g))
	return []api.Fill{f, way, g}, api.OK
}

// Worst is the place at which a fill's moment may be greatest, and how great.
func Worst(h api.Hold, f api.Fill) (ullage, moment int, e api.Errno) {
	all, e := Moment(h, f)
	if e != api.OK {
		return 0, 0, e
	}
	if f.State != api.Partly {
		return 0, all.Hi, api.OK
	}
	// A run that reaches the ullage is there, because the moment is one of a place of it.
	runs, _ := fix.Where(h.Moment, api.Range{Lo: all.Hi, Hi: api.MaxY})
	i := slices.IndexFunc(runs, func(r api.Range) bool { return r.Hi >= f.Ullage.Lo })
	return max(runs[i].Lo, f.Ullage.Lo), all.Hi, api.OK
}

// CheckWorst reports whether a place is one at which a fill's moment may be greatest.
func CheckWorst(h api.Hold, f api.Fill, ullage, moment int) api.Errno {
	all, e := Moment(h, f)
	if e != api.OK {
		return e
	}
	if !isWorst(h, f, ullage, moment) || moment != all.Hi {
		return api.ErrArg
	}
	return api.OK
}

// isWorst reports whether a fill may have a moment at a place that Worst could tell.
func isWorst(h api.Hold, f api.Fill, ullage, moment int) bool {
	if f.State != api.Partly {
		return ullage == 0
	}
	at, _ := fix.At(h.Moment, ullage)
	return fix.Has(f.Ullage, ullage) && at.Hi == moment
}
