package plan

import (
	"cmp"
	"slices"

	"ullage/api"
)

// maxLeast limits what a potential may tell, with either sign.
const maxLeast = 1000000000

// comparePotentials orders them by their states.
func comparePotentials(a, b api.Potential) int {
	return cmp.Or(cmp.Compare(a.Done, b.Done), cmp.Compare(a.Spouts, b.Spouts))
}

// Potentials returns what the rest costs, of each state that may be reached.
func Potentials(w api.Work) ([]api.Potential, api.Errno) {
	if e := CheckWork(w); e != api.OK {
		return nil, e
	}
	var l []api.Potential
	for at, least := range networkOf(w).rests() {
		l = append(l, api.Potential{Done: at.done, Spouts: at.spouts, Least: least})
	}
	slices.SortFunc(l, comparePotentials)
	return l, api.OK
}

// stateOf is the state that a potential tells of.
func stateOf(p api.Potential) state { return state{p.Done, p.Spouts} }

// arePotentials reports whether potentials tell, in order, of the state at the beginning and of others.
func (n network) arePotentials(l []api.Potential) bool {
	// No state is ahead of the one at the beginning.
	if len(l) == 0 || stateOf(l[0]) != (state{}) {
		return false
	}
	for i, p := range l {
		if !isMask(p.Done, len(n.work.Jobs)) || !isMask(p.Spouts, api.MaxSpouts) || !isBetween(p.Least, -maxLeast, maxLeast) {
			return false
		}
		if i > 0 && comparePotentials(l[i-1], p) >= 0 {
			return false
		}
	}
	return true
}

// isBounded reports whether no leg from a potential's state shows that the rest may cost less.
func (n network) isBounded(p api.Potential, rests map[state]int) bool {
	if p.Done == n.all && p.Least > 0 {
		return false
	}
	for _, l := range n.from(p.Done) {
		rest, ok := rests[n.behind(l)]
		if !ok || p.Least > n.handling(p.Spouts, l)+rest {
			return false
		}
	}
	return true
}

// CheckPotentials returns the bound that potentials show.
func CheckPotentials(w api.Work, l []api.Potential) (int, api.Errno) {
	if e := CheckWork(w); e != api.OK {
		return 0, e
	}
	n := networkOf(w)
	if !n.arePotentials(l) {
		return 0, api.ErrBound
	}
	rests := map[state]int{}
	for _, p := range l {
		rests[stateOf(p)] = p.Least
	}
	for _, p := range l {
		if !n.isBounded(p, rests) {
			return 0, api.ErrBound
		}
	}
	return l[0].Least, api.OK
}
