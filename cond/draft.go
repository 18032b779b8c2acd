package cond

import (
	"ullage/api"
	"ullage/fix"
)

// draft is the mean draft.
func (c state) draft() (api.Range, api.Errno) { return c.over(vessel.drafts) }

// trim is by how much she is deeper ahead than aft.
func (c state) trim() (api.Range, api.Errno) {
	centre, e := c.over(vessel.centres)
	if e != api.OK {
		return api.Range{}, e
	}
	perMetre, e := c.over(vessel.trims)
	if e != api.OK {
		return api.Range{}, e
	}
	lever, _ := fix.Sub(c.total.Along, centre)
	return quotient(products(c.total.Mass, lever), products(perMetre, one(1000))), api.OK
}

// ends are the drafts ahead and aft.
func (c state) ends() (fore, aft api.Range, e api.Errno) {
	d, e := c.draft()
	if e != api.OK {
		return api.Range{}, api.Range{}, e
	}
	t, e := c.trim()
	if e != api.OK {
		return api.Range{}, api.Range{}, e
	}
	half := quotient(t, one(2))
	fore = api.Range{Lo: d.Lo + half.Lo, Hi: d.Hi + half.Hi}
	aft = api.Range{Lo: d.Lo - half.Hi, Hi: d.Hi - half.Lo}
	return fore, aft, api.OK
}

// raised is the height of the centre, raised by what free surfaces take of her stability.
func (c state) raised() api.Range {
	up := quotient(c.load.Surface, c.total.Mass)
	return api.Range{Lo: c.total.High.Lo + up.Lo, Hi: c.total.High.Hi + up.Hi}
}

// metric is the metacentric height.
func (c state) metric() (api.Range, api.Errno) {
	height, e := c.over(vessel.heights)
	if e != api.OK {
		return api.Range{}, e
	}
	return fix.Sub(height, c.raised())
}

// Draft returns the mean draft.
func Draft(s api.Ship, l api.Load) (api.Range, api.Errno) { return tell(s, l, state.draft) }

// Trim returns by how much she is deeper ahead than aft.
func Trim(s api.Ship, l api.Load) (api.Range, api.Errno) { return tell(s, l, state.trim) }

// Ends returns the drafts ahead and aft.
func Ends(s api.Ship, l api.Load) (fore, aft api.Range, e api.Errno) {
	c, e := stateOf(s, l)
	if e != api.OK {
		return api.Range{}, api.Range{}, e
	}
	return c.ends()
}

// Metric returns the metacentric height.
func Metric(s api.Ship, l api.Load) (api.Range, api.Errno) { return tell(s, l, state.metric) }
