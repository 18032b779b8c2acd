package cond

import "ullage/api"

// quantity is a fact, if tell has no error.
type quantity struct {
	name string
	tell func() (api.Range, api.Errno)
}

// quantities has the quantities of a ship with a load; areas count up to most.
func (c state) quantities(most int) []quantity {
	// Without a margin there are no points, and neither a heel nor an area.
	margin, _ := c.margin()
	all := c.ship.angles()
	return []quantity{
		{"tonnes", func() (api.Range, api.Errno) { return c.tonnes, api.OK }},
		{"draft", c.draft},
		{"trim", c.trim},
		{"fore", func() (api.Range, api.Errno) {
			fore, _, e := c.ends()
			return fore, e
		}},
		{"aft", func() (api.Range, api.Errno) {
			_, aft, e := c.ends()
			return aft, e
		}},
		{"gm", c.metric},
		{"heel", func() (api.Range, api.Errno) { return heelOf(margin) }},
		{"flood", func() (api.Range, api.Errno) { return c.over(vessel.flood) }},
		{"area", func() (api.Range, api.Errno) {
			return areaOf(margin, api.Range{Lo: all.Lo, Hi: min(most, all.Hi)})
		}},
	}
}

// Facts returns the quantities that rules may name.
func Facts(s api.Ship, l api.Load, most int) ([]api.Fact, api.Errno) {
	c, e := stateUpTo(s, l, most)
	if e != api.OK {
		return nil, e
	}
	var facts []api.Fact
	for _, q := range c.quantities(most) {
		if r, e := q.tell(); e == api.OK {
			facts = append(facts, api.Fact{Name: q.name, Value: r})
		}
	}
	return facts, api.OK
}
