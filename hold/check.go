// Package hold is layer 2: holds for grain and tanks for liquids, their volumes, masses, heeling moments and free surfaces (see shared/doc/02-hold.md).
package hold

import (
	"ullage/api"
	"ullage/fix"
)

// within reports whether r has numbers, all of which are from lo to hi.
func within(r api.Range, lo, hi int) bool {
	return lo <= r.Lo && r.Lo <= r.Hi && r.Hi <= hi
}

// isDensity reports whether a range is a density.
func isDensity(r api.Range) bool { return within(r, api.MinDensity, api.MaxDensity) }

// places are the places of a valid table.
func places(t api.Table) api.Range {
	return api.Range{Lo: t.Points[0].X, Hi: t.Points[len(t.Points)-1].X}
}

// inPlaces reports whether r is from one place of a valid table to another one.
func inPlaces(r api.Range, t api.Table) bool {
	all := places(t)
	return within(r, all.Lo, all.Hi)
}

// measures reports whether a table is one of a compartment: valid, of two points at least, and never below 0.
func measures(t api.Table) bool {
	if fix.CheckTable(t) != api.OK || len(t.Points) < 2 {
		return false
	}
	for _, p := range t.Points {
		if p.Lo < 0 {
			return false
		}
	}
	return true
}

// ordered reports whether so holds for Lo, and for Hi, of each two neighbouring points.
func ordered(t api.Table, so func(a, b int) bool) bool {
	for i := 1; i < len(t.Points); i++ {
		a, b := t.Points[i-1], t.Points[i]
		if !so(a.Lo, b.Lo) || !so(a.Hi, b.Hi) {
			return false
		}
	}
	return true
}

// checkTables reports whether tables are those of a compartment whose volume and height change in the direction that so tells.
func checkTables(volume, moment, height api.Table, so func(a, b int) bool) bool {
	for _, t := range [...]api.Table{volume, moment, height} {
		if !measures(t) || places(t) != places(volume) {
			return false
		}
	}
	return ordered(volume, so) && ordered(height, so)
}

// CheckHold reports whether a hold is valid.
func CheckHold(h api.Hold) api.Errno {
	if h.Id < 1 || h.Id > api.MaxHolds || !within(h.Along, -api.MaxX, api.MaxX) {
		return api.ErrHold
	}
	for _, r := range [...]api.Range{h.Trimmed, h.Untrimmed, h.Volume0, h.Height0} {
		if !within(r, 0, api.MaxY) {
			return api.ErrHold
		}
	}
	if !checkTables(h.Volume, h.Moment, h.Height, func(a, b int) bool { return b <= a }) {
		return api.ErrHold
	}
	return api.OK
}

// CheckTank reports whether a tank is valid.
func CheckTank(t api.Tank) api.Errno {
	if t.Id < 1 || t.Id > api.MaxTanks || !within(t.Along, -api.MaxX, api.MaxX) {
		return api.ErrTank
	}
	if !checkTables(t.Volume, t.Surface, t.Height, func(a, b int) bool { return b >= a }) {
		return api.ErrTank
	}
	return api.OK
}

// CheckFill reports whether a fill is one of a hold.
func CheckFill(h api.Hold, f api.Fill) api.Errno {
	if CheckHold(h) != api.OK {
		return api.ErrHold
	}
	all := meanings()
	if f.Hold != h.Id || f.State < 0 || f.State >= len(all) || !all[f.State].valid(h, f) {
		return api.ErrFill
	}
	return api.OK
}

// CheckLevel reports whether a level is one of a tank.
func CheckLevel(t api.Tank, l api.Level) api.Errno {
	if CheckTank(t) != api.OK {
		return api.ErrTank
	}
	if l.Tank != t.Id || !isDensity(l.Density) || !inPlaces(l.Sounding, t.Volume) {
		return api.ErrLevel
	}
	if l.Pressed && l.Sounding.Lo != places(t.Volume).Hi {
		return api.ErrLevel
	}
	return api.OK
}
