package desk

import (
	"slices"

	"ullage/api"
)

// copies has a copy of each element of a list.
func copies[T any](l []T, copyOf func(x T) T) []T {
	var all []T
	for _, x := range l {
		all = append(all, copyOf(x))
	}
	return all
}

// copyOfTable shares no memory with t.
func copyOfTable(t api.Table) api.Table { return api.Table{Points: slices.Clone(t.Points)} }

// copyOfCross shares no memory with c.
func copyOfCross(c api.Cross) api.Cross {
	c.Arms = copyOfTable(c.Arms)
	return c
}

// tablesOf are the tables that each ship has once, in the order of their numbers.
func tablesOf(s *api.Ship) [7]*api.Table {
	return [...]*api.Table{&s.Drafts, &s.Heights, &s.Centres, &s.Trims, &s.Flood, &s.Sine, &s.Shift}
}

// copyOfShip shares no memory with s.
func copyOfShip(s api.Ship) api.Ship {
	for _, t := range tablesOf(&s) {
		*t = copyOfTable(*t)
	}
	s.Cross = copies(s.Cross, copyOfCross)
	return s
}

// copyOfHold shares no memory with h.
func copyOfHold(h api.Hold) api.Hold {
	h.Volume, h.Moment, h.Height = copyOfTable(h.Volume), copyOfTable(h.Moment), copyOfTable(h.Height)
	return h
}

// copyOfTank shares no memory with t.
func copyOfTank(t api.Tank) api.Tank {
	t.Volume, t.Surface, t.Height = copyOfTable(t.Volume), copyOfTable(t.Surface), copyOfTable(t.Height)
	return t
}

// copyOfRule shares no memory with r.
func copyOfRule(r api.Rule) api.Rule {
	r.When.Terms, r.Must.Terms, r.Unless = slices.Clone(r.When.Terms), slices.Clone(r.Must.Terms), slices.Clone(r.Unless)
	return r
}

// copyOfVoyage shares no memory with v.
func copyOfVoyage(v api.Voyage) api.Voyage {
	v.Ship = copyOfShip(v.Ship)
	v.Holds, v.Fills = copies(v.Holds, copyOfHold), slices.Clone(v.Fills)
	v.Tanks, v.Levels = copies(v.Tanks, copyOfTank), slices.Clone(v.Levels)
	v.Code.Facts, v.Code.Rules = slices.Clone(v.Code.Facts), copies(v.Code.Rules, copyOfRule)
	v.Given = slices.Clone(v.Given)
	return v
}
