package hold

import (
	"slices"

	"ullage/api"
	"ullage/fix"
)

// checkEach checks compartments with what they have, one by one. bad is the error of a compartment that is not valid, or has the id of one ahead of it.
func checkEach[C, H any](list []C, has []H, check func(c C, h H) api.Errno, id func(c C) int, bad api.Errno) api.Errno {
	for i, c := range list {
		e := check(c, has[i])
		if e == bad || slices.ContainsFunc(list[:i], func(d C) bool { return id(d) == id(c) }) {
			return bad
		}
		if e != api.OK {
			return e
		}
	}
	return api.OK
}

// sum is the range of the sums of two valid ranges that are far below MaxWide.
func sum(a, b api.Range) api.Range {
	r, _ := fix.Add(a, b)
	return r
}

// checkLoad returns the first error of what Load has as arguments.
func checkLoad(h []api.Hold, f []api.Fill, t []api.Tank, l []api.Level) api.Errno {
	if len(h) > api.MaxHolds || len(t) > api.MaxTanks {
		return api.ErrLong
	}
	if len(f) != len(h) || len(l) != len(t) {
		return api.ErrArg
	}
	e := checkEach(h, f, CheckFill, func(h api.Hold) int { return h.Id }, api.ErrHold)
	if e != api.OK {
		return e
	}
	return checkEach(t, l, CheckLevel, func(t api.Tank) int { return t.Id }, api.ErrTank)
}

// Load is what holds and tanks add to a ship.
func Load(h []api.Hold, f []api.Fill, t []api.Tank, l []api.Level) (api.Load, api.Errno) {
	if e := checkLoad(h, f, t, l); e != api.OK {
		return api.Load{}, e
	}
	var all api.Load
	for i := range h {
		if f[i].State == api.Empty {
			continue
		}
		w, _ := Weight(h[i], f[i])
		heel, _ := Heel(h[i], f[i])
		all.Weights = append(all.Weights, w)
		all.Shift = sum(all.Shift, heel)
	}
	for i := range t {
		w, _ := Ballast(t[i], l[i])
		surface, _ := Surface(t[i], l[i])
		all.Weights = append(all.Weights, w)
		all.Surface = sum(all.Surface, surface)
	}
	return all, api.OK
}
