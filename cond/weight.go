package cond

import (
	"cmp"
	"iter"
	"slices"

	"ullage/api"
)

// aboard yields the weights of a ship with a load.
func aboard(s api.Ship, l api.Load) iter.Seq[api.Weight] {
	return func(yield func(api.Weight) bool) {
		if !yield(s.Light) {
			return
		}
		for _, w := range l.Weights {
			if !yield(w) {
				return
			}
		}
	}
}

// masses is the range of the masses together.
func masses(l iter.Seq[api.Weight]) api.Range {
	var all api.Range
	for w := range l {
		all.Lo += w.Mass.Lo
		all.Hi += w.Mass.Hi
	}
	return all
}

// leastCentre is the least centre of weights at places, rounded down. It is least where all weights up to some place have their greatest mass and those beyond have their least one: each of these choices is asked.
func leastCentre(l iter.Seq[api.Weight], place func(w api.Weight) int) int {
	mass, moment := 0, 0
	for w := range l {
		mass += w.Mass.Lo
		moment += w.Mass.Lo * place(w)
	}
	least := floor(moment, mass)
	sorted := slices.SortedFunc(l, func(a, b api.Weight) int { return cmp.Compare(place(a), place(b)) })
	for _, w := range sorted {
		more := w.Mass.Hi - w.Mass.Lo
		mass += more
		moment += more * place(w)
		least = min(least, floor(moment, mass))
	}
	return least
}

// centre is the range of the centre of weights that lie where along tells.
func centre(l iter.Seq[api.Weight], along func(w api.Weight) api.Range) api.Range {
	// The greatest centre is the least one of the places seen from the other side.
	return api.Range{
		Lo: leastCentre(l, func(w api.Weight) int { return along(w).Lo }),
		Hi: -leastCentre(l, func(w api.Weight) int { return -along(w).Hi }),
	}
}

// together is the sum of valid weights that surely have a mass.
func together(l iter.Seq[api.Weight]) api.Weight {
	return api.Weight{
		Mass:  masses(l),
		Along: centre(l, func(w api.Weight) api.Range { return w.Along }),
		High:  centre(l, func(w api.Weight) api.Range { return w.High }),
	}
}

// Sum returns the mass and the centre of weights together.
func Sum(l []api.Weight) (api.Weight, api.Errno) {
	if len(l) > api.MaxWeights+1 {
		return api.Weight{}, api.ErrLong
	}
	for _, w := range l {
		if CheckWeight(w) != api.OK {
			return api.Weight{}, api.ErrWeight
		}
	}
	all := slices.Values(l)
	if masses(all).Lo == 0 {
		return api.Weight{}, api.ErrNone
	}
	return together(all), api.OK
}

// Total returns the mass and the centre of the ship with her load.
func Total(s api.Ship, l api.Load) (api.Weight, api.Errno) {
	return tell(s, l, func(c state) (api.Weight, api.Errno) { return c.total, api.OK })
}

// Tonnes returns the displacement.
func Tonnes(s api.Ship, l api.Load) (api.Range, api.Errno) {
	return tell(s, l, func(c state) (api.Range, api.Errno) { return c.tonnes, api.OK })
}
