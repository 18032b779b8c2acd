package cond

import (
	"slices"

	"ullage/api"
	"ullage/fix"
)

// bends are the angles at which arms may bend; ErrLong if a table could not have so many points. The first and the last angle are among them, because some table begins, and one ends, there.
func (v vessel) bends() ([]int, api.Errno) {
	all := v.angles()
	var l []int
	for t := range v.overAngle() {
		for _, p := range t.Points {
			if within(one(p.X), all) {
				l = append(l, p.X)
			}
		}
	}
	slices.Sort(l)
	l = slices.Compact(l)
	if len(l) > api.MaxPoints {
		return nil, api.ErrLong
	}
	return l, api.OK
}

// curve makes a table of the values at angles; ErrBig if one is too great.
func curve(angles []int, value func(x int) api.Range) (api.Table, api.Errno) {
	var t api.Table
	for _, x := range angles {
		r := value(x)
		if !within(r, around(api.MaxY)) {
			return api.Table{}, api.ErrBig
		}
		t.Points = append(t.Points, api.Point{X: x, Lo: r.Lo, Hi: r.Hi})
	}
	return t, api.OK
}

// at is the range of the values of a valid table at an angle of the ship.
func at(t api.Table, x int) api.Range {
	r, _ := fix.At(t, x)
	return r
}

// crossed is the range of the arm that the cross curves have at an angle for a displacement between theirs.
func (c state) crossed(x int) api.Range {
	var t api.Table
	for _, k := range c.ship.Cross {
		r := at(k.Arms, x)
		t.Points = append(t.Points, api.Point{X: k.Tonnes, Lo: r.Lo, Hi: r.Hi})
	}
	r, _ := fix.Over(t, c.tonnes)
	return r
}

// righting has the righting arms.
func (c state) righting() (api.Table, api.Errno) {
	angles, e := c.ship.bends()
	if e != api.OK {
		return api.Table{}, e
	}
	cross := c.ship.Cross
	if !within(c.tonnes, api.Range{Lo: cross[0].Tonnes, Hi: cross[len(cross)-1].Tonnes}) {
		return api.Table{}, api.ErrOut
	}
	raised := c.raised()
	return curve(angles, func(x int) api.Range {
		k := c.crossed(x)
		p := quotient(products(raised, at(c.ship.Sine, x)), one(1000000))
		return api.Range{Lo: k.Lo - p.Hi, Hi: k.Hi - p.Lo}
	})
}

// heeling has the heeling arms of the assumed shift.
func (c state) heeling() (api.Table, api.Errno) {
	angles, e := c.ship.bends()
	if e != api.OK {
		return api.Table{}, e
	}
	arm := quotient(c.load.Shift, c.total.Mass)
	return curve(angles, func(x int) api.Range {
		return quotient(products(arm, at(c.ship.Shift, x)), one(1000))
	})
}

// margin has by how much the righting arms exceed the heeling arms.
func (c state) margin() (api.Table, api.Errno) {
	righting, e := c.righting()
	if e != api.OK {
		return api.Table{}, e
	}
	heeling, e := c.heeling()
	if e != api.OK {
		return api.Table{}, e
	}
	against, _ := fix.Times(heeling, -1, 1)
	return fix.Plus(righting, against)
}

// Righting returns the righting arms over the angle.
func Righting(s api.Ship, l api.Load) (api.Table, api.Errno) { return tell(s, l, state.righting) }

// Heeling returns the heeling arms of the assumed shift over the angle.
func Heeling(s api.Ship, l api.Load) (api.Table, api.Errno) { return tell(s, l, state.heeling) }

// Margin returns by how much the righting arms exceed the heeling arms.
func Margin(s api.Ship, l api.Load) (api.Table, api.Errno) { return tell(s, l, state.margin) }
