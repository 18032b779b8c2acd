package plan

import (
	"cmp"

	"ullage/api"
)

// nowhere is told as the rest of a state from which no plan goes on. It is more than any plan handles.
const nowhere = api.MaxCost * 1000

// rests has, for each state that is reached, the least handling of the legs with which a plan goes on.
func (n network) rests() map[state]int {
	rests := map[state]int{}
	n.addRest(state{}, rests)
	return rests
}

// addRest returns the rest of a state, and adds it and those of all further states.
func (n network) addRest(at state, rests map[state]int) int {
	if least, ok := rests[at]; ok {
		return least
	}
	least := nowhere
	if at.done == n.all {
		least = 0
	}
	for _, l := range n.from(at.done) {
		rest := n.addRest(n.behind(l), rests)
		least = min(least, n.handling(at.spouts, l)+rest)
	}
	rests[at] = least
	return least
}

// cheapest is the first leg, of those from a state that add one of the jobs, with which a plan handles least; -1 if no plan goes on with any.
func (n network) cheapest(at state, jobs int, rests map[state]int) int {
	least, best := nowhere, -1
	for i, l := range n.from(at.done) {
		sum := n.handling(at.spouts, l) + rests[n.behind(l)]
		if l.Add&jobs != 0 && sum < least {
			least, best = sum, i
		}
	}
	return best
}

// bestWith is the first plan of those with the least handling whose first leg adds one of the jobs.
func (n network) bestWith(jobs int) (api.Plan, api.Errno) {
	rests := n.rests()
	var p api.Plan
	for at := (state{}); at.done != n.all; jobs = n.all {
		i := n.cheapest(at, jobs, rests)
		if i < 0 {
			return api.Plan{}, api.ErrNone
		}
		p.Legs = append(p.Legs, i)
		at = n.behind(n.work.Legs[i])
	}
	return p, api.OK
}

// Best is the first plan with the least handling.
func Best(w api.Work) (api.Plan, api.Errno) {
	if e := CheckWork(w); e != api.OK {
		return api.Plan{}, e
	}
	n := networkOf(w)
	return n.bestWith(n.all)
}

// First is the first plan with the least handling that begins with a job.
func First(w api.Work, job int) (api.Plan, api.Errno) {
	if e := cmp.Or(CheckWork(w), checkJob(w, job)); e != api.OK {
		return api.Plan{}, e
	}
	return networkOf(w).bestWith(1 << job)
}

// counts has, for each mask, the number of chains of legs that lead from it to all jobs.
func (n network) counts() []int {
	counts := make([]int, n.all+1)
	counts[n.all] = 1
	// A leg leads to a greater mask, so that the count of that one is known by then.
	for ahead := range n.all {
		mask := n.all - 1 - ahead
		for _, l := range n.from(mask) {
			counts[mask] += counts[leadsTo(l)]
		}
	}
	return counts
}

// countOf is the number of plans of valid work.
func countOf(w api.Work) int { return networkOf(w).counts()[0] }

// Count is the number of plans.
func Count(w api.Work) (int, api.Errno) {
	if e := CheckWork(w); e != api.OK {
		return 0, e
	}
	return countOf(w), api.OK
}

// Nth is the plan with a number.
func Nth(w api.Work, n int) (api.Plan, api.Errno) {
	if e := CheckWork(w); e != api.OK {
		return api.Plan{}, e
	}
	net := networkOf(w)
	counts := net.counts()
	if !isBetween(n, 0, counts[0]-1) {
		return api.Plan{}, api.ErrNone
	}
	var p api.Plan
	for done := 0; done != net.all; {
		for i, l := range net.from(done) {
			// The plans that go on with l are numbered ahead of those with later legs.
			if n < counts[leadsTo(l)] {
				p.Legs = append(p.Legs, i)
				done = leadsTo(l)
				break
			}
			n -= counts[leadsTo(l)]
		}
	}
	return p, api.OK
}
