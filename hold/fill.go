package hold

import (
	"ullage/api"
	"ullage/fix"
)

// meaning is what a state means for a hold and a fill that has it.
type meaning struct {
	valid                  func(h api.Hold, f api.Fill) bool
	volume, moment, height func(h api.Hold, f api.Fill) api.Range
	surface                func(h api.Hold, f api.Fill) api.Range // the ullages on the way to another state
	pour, draw, settle     api.Errno                              // why not
}

// nothing is what an empty hold has, and the moment of grain that cannot shift.
func nothing(h api.Hold, f api.Fill) api.Range { return api.Range{} }

// over is the range of a valid table's values over some of its places.
func over(t api.Table, r api.Range) api.Range {
	v, _ := fix.Over(t, r)
	return v
}

// empty is the meaning of a hold without grain.
func empty() meaning {
	return meaning{
		valid:  func(h api.Hold, f api.Fill) bool { return f == api.Fill{Hold: h.Id, State: api.Empty} },
		volume: nothing,
		moment: nothing,
		height: nothing,
		surface: func(h api.Hold, f api.Fill) api.Range {
			last := places(h.Volume).Hi
			return api.Range{Lo: last, Hi: last}
		},
		draw:   api.ErrFill,
		settle: api.ErrFill,
	}
}

// filled is the meaning of a full hold with a moment.
func filled(moment func(h api.Hold, f api.Fill) api.Range) meaning {
	return meaning{
		valid: func(h api.Hold, f api.Fill) bool {
			return f == api.Fill{Hold: h.Id, State: f.State, Density: f.Density} && isDensity(f.Density)
		},
		volume: func(h api.Hold, f api.Fill) api.Range { return h.Volume0 },
		moment: moment,
		height: func(h api.Hold, f api.Fill) api.Range { return h.Height0 },
		surface: func(h api.Hold, f api.Fill) api.Range {
			first := places(h.Volume).Lo
			return api.Range{Lo: first, Hi: first}
		},
		pour:   api.ErrRoom,
		settle: api.ErrFill,
	}
}

// partly is the meaning of a hold that is filled in part, with a moment.
func partly(moment func(h api.Hold, f api.Fill) api.Range) meaning {
	return meaning{
		valid: func(h api.Hold, f api.Fill) bool {
			return inPlaces(f.Ullage, h.Volume) && isDensity(f.Density)
		},
		volume:  func(h api.Hold, f api.Fill) api.Range { return over(h.Volume, f.Ullage) },
		moment:  moment,
		height:  func(h api.Hold, f api.Fill) api.Range { return over(h.Height, f.Ullage) },
		surface: func(h api.Hold, f api.Fill) api.Range { return f.Ullage },
	}
}

// held is the meaning of a hold that is filled in part, and whose grain cannot shift.
func held() meaning {
	m := partly(nothing)
	m.pour, m.draw = api.ErrFill, api.ErrFill
	return m
}

// meanings has the meaning of each state.
func meanings() [api.Overstowed + 1]meaning {
	return [...]meaning{
		api.Empty:      empty(),
		api.Trimmed:    filled(func(h api.Hold, f api.Fill) api.Range { return h.Trimmed }),
		api.Untrimmed:  filled(func(h api.Hold, f api.Fill) api.Range { return h.Untrimmed }),
		api.Partly:     partly(func(h api.Hold, f api.Fill) api.Range { return over(h.Moment, f.Ullage) }),
		api.Strapped:   held(),
		api.Overstowed: held(),
	}
}

// meaningOf is the meaning of a valid fill's state.
func meaningOf(f api.Fill) meaning { return meanings()[f.State] }

// tell returns what so tells of a fill, if it is valid for the hold.
func tell(h api.Hold, f api.Fill, so func(m meaning) api.Range) (api.Range, api.Errno) {
	if e := CheckFill(h, f); e != api.OK {
		return api.Range{}, e
	}
	return so(meaningOf(f)), api.OK
}

// dense is a quantity, which is at most MaxY, times a density, by litre.
func dense(v, density api.Range) api.Range {
	grams, _ := fix.Mul(v, density)
	kilos, _ := fix.Scale(grams, 1, 1000)
	return kilos
}

// Volume is the volume of a fill.
func Volume(h api.Hold, f api.Fill) (api.Range, api.Errno) {
	return tell(h, f, func(m meaning) api.Range { return m.volume(h, f) })
}

// Mass is the mass of a fill.
func Mass(h api.Hold, f api.Fill) (api.Range, api.Errno) {
	return tell(h, f, func(m meaning) api.Range { return dense(m.volume(h, f), f.Density) })
}

// Moment is the volumetric heeling moment of a fill.
func Moment(h api.Hold, f api.Fill) (api.Range, api.Errno) {
	return tell(h, f, func(m meaning) api.Range { return m.moment(h, f) })
}

// Heel is the heeling moment of a fill by mass.
func Heel(h api.Hold, f api.Fill) (api.Range, api.Errno) {
	return tell(h, f, func(m meaning) api.Range { return dense(m.moment(h, f), f.Density) })
}

// Height is the height of the centre of a fill.
func Height(h api.Hold, f api.Fill) (api.Range, api.Errno) {
	return tell(h, f, func(m meaning) api.Range { return m.height(h, f) })
}

// Weight is the weight of a fill.
func Weight(h api.Hold, f api.Fill) (api.Weight, api.Errno) {
	mass, e := Mass(h, f)
	if e != api.OK {
		return api.Weight{}, e
	}
	high := meaningOf(f).height(h, f)
	return api.Weight{Mass: mass, Along: h.Along, High: high}, api.OK
}
