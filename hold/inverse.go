package hold

import (
	"sort"

	"ullage/api"
	"ullage/fix"
)

// floor is n / d rounded down; d is above 0.
func floor(n, d int) int {
	q := n / d
	if n%d < 0 {
		q--
	}
	return q
}

// checkMass returns ErrRange or ErrFill if a mass or a density is none.
func checkMass(mass, density api.Range) api.Errno {
	if fix.CheckRange(mass) != api.OK {
		return api.ErrRange
	}
	if !isDensity(density) {
		return api.ErrFill
	}
	return api.OK
}

// litres is the volume of a mass. It may be beyond what a valid range may have: a table's volumes are held against it, no more.
func litres(mass, density api.Range) api.Range {
	least, greatest := density.Hi, density.Lo
	if mass.Lo < 0 {
		least = density.Lo
	}
	if mass.Hi < 0 {
		greatest = density.Hi
	}
	return api.Range{Lo: floor(1000*mass.Lo, least), Hi: -floor(-1000*mass.Hi, greatest)}
}

// Litres is the volume of a mass.
func Litres(mass, density api.Range) (api.Range, api.Errno) {
	if e := checkMass(mass, density); e != api.OK {
		return api.Range{}, e
	}
	return litres(mass, density), api.OK
}

// less reports whether each number of a is less than each one of b. (fix.Before would want both to be valid.)
func less(a, b api.Range) bool { return a.Hi < b.Lo }

// more reports whether each number of a is more than each one of b.
func more(a, b api.Range) bool { return less(b, a) }

// first returns the first number from lo to hi at which so holds, and hi + 1 if there is none. Behind it, so holds at each number.
func first[N ~int](lo, hi N, so func(n N) bool) N {
	return lo + N(sort.Search(int(hi-lo+1), func(i int) bool { return so(lo + N(i)) }))
}

// inverse returns the places between those that are surely ahead of a volume (the first ones of a table) and those that are surely behind it (the last ones); ErrRoom if all are on one side.
func inverse(t api.Table, v api.Range, ahead, behind func(at, v api.Range) bool) (api.Range, api.Errno) {
	all := places(t)
	from := first(all.Lo, all.Hi, func(x int) bool {
		at, _ := fix.At(t, x)
		return !ahead(at, v)
	})
	to := first(all.Lo, all.Hi, func(x int) bool {
		at, _ := fix.At(t, x)
		return behind(at, v)
	})
	if from > all.Hi || to == all.Lo {
		return api.Range{}, api.ErrRoom
	}
	return api.Range{Lo: max(from-1, all.Lo), Hi: min(to, all.Hi)}, api.OK
}

// ullages is the inverse of a hold's volume, which falls over the ullage.
func ullages(h api.Hold, v api.Range) (api.Range, api.Errno) {
	return inverse(h.Volume, v, more, less)
}

// soundings is the inverse of a tank's volume, which rises over the sounding.
func soundings(t api.Tank, v api.Range) (api.Range, api.Errno) {
	return inverse(t.Volume, v, less, more)
}

// ofMass returns what an inverse has for a mass.
func ofMass(mass, density api.Range, find func(v api.Range) (api.Range, api.Errno)) (api.Range, api.Errno) {
	v, e := Litres(mass, density)
	if e != api.OK {
		return api.Range{}, e
	}
	return find(v)
}

// Ullage has the ullages at which a hold may have a mass.
func Ullage(h api.Hold, mass, density api.Range) (api.Range, api.Errno) {
	if CheckHold(h) != api.OK {
		return api.Range{}, api.ErrHold
	}
	return ofMass(mass, density, func(v api.Range) (api.Range, api.Errno) { return ullages(h, v) })
}

// Sounding has the soundings at which a tank may have a mass.
func Sounding(t api.Tank, mass, density api.Range) (api.Range, api.Errno) {
	if CheckTank(t) != api.OK {
		return api.Range{}, api.ErrTank
	}
	return ofMass(mass, density, func(v api.Range) (api.Range, api.Errno) { return soundings(t, v) })
}
