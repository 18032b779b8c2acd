package hold

import "ullage/api"

// Liquid is the mass of a level.
func Liquid(t api.Tank, l api.Level) (api.Range, api.Errno) {
	if e := CheckLevel(t, l); e != api.OK {
		return api.Range{}, e
	}
	return dense(over(t.Volume, l.Sounding), l.Density), api.OK
}

// Surface is the moment of a level's free surface by mass.
func Surface(t api.Tank, l api.Level) (api.Range, api.Errno) {
	if e := CheckLevel(t, l); e != api.OK {
		return api.Range{}, e
	}
	v := over(t.Volume, l.Sounding)
	if l.Pressed || v.Hi == 0 {
		return api.Range{}, api.OK
	}
	s := dense(over(t.Surface, l.Sounding), l.Density)
	if v.Lo == 0 {
		// The tank may be empty, whatever its table has for the surface.
		s.Lo = 0
	}
	return s, api.OK
}

// Ballast is the weight of a level.
func Ballast(t api.Tank, l api.Level) (api.Weight, api.Errno) {
	mass, e := Liquid(t, l)
	if e != api.OK {
		return api.Weight{}, e
	}
	return api.Weight{Mass: mass, Along: t.Along, High: over(t.Height, l.Sounding)}, api.OK
}

// Pump is a level behind a mass that is pumped in, or out (below 0).
func Pump(t api.Tank, l api.Level, mass api.Range) (api.Level, api.Errno) {
	if e := CheckLevel(t, l); e != api.OK {
		return api.Level{}, e
	}
	if e := checkMass(mass, l.Density); e != api.OK {
		return api.Level{}, e
	}
	had, more := over(t.Volume, l.Sounding), litres(mass, l.Density)
	// Where even the Hi of this is below 0, there is no inverse.
	r, e := soundings(t, api.Range{Lo: max(had.Lo+more.Lo, 0), Hi: had.Hi + more.Hi})
	if e != api.OK {
		return api.Level{}, e
	}
	return api.Level{Tank: t.Id, Sounding: r, Density: l.Density}, api.OK
}
