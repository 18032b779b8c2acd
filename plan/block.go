package plan

import "ullage/api"

// closed returns the masks to which chains of legs lead from masks with at most so many jobs, rising.
func (n network) closed(jobs int) []int {
	reached := make([]bool, n.all+1)
	var l []int
	// Legs lead to greater masks, so that all legs to a mask have been seen ahead of it.
	for mask := range n.all + 1 {
		if !reached[mask] && size(mask) > jobs {
			continue
		}
		l = append(l, mask)
		for _, leg := range n.from(mask) {
			reached[leadsTo(leg)] = true
		}
	}
	return l
}

// Reach returns the masks of jobs that may be done at some time.
func Reach(w api.Work) ([]int, api.Errno) {
	if e := CheckWork(w); e != api.OK {
		return nil, e
	}
	return networkOf(w).closed(0), api.OK
}

// mostJobs is the greatest number of jobs of masks.
func mostJobs(masks []int) int {
	most := 0
	for _, mask := range masks {
		most = max(most, size(mask))
	}
	return most
}

// Blocked returns the shortest block.
func Blocked(w api.Work) (api.Block, api.Errno) {
	if e := CheckWork(w); e != api.OK {
		return api.Block{}, e
	}
	n := networkOf(w)
	var best api.Block
	for from := range w.Jobs {
		closed := n.closed(from)
		b := api.Block{From: from, To: mostJobs(closed) + 1, Closed: closed}
		// A chain that does all jobs is blocked nowhere.
		if b.To <= len(w.Jobs) && (best.To == 0 || b.To-b.From < best.To-best.From) {
			best = b
		}
	}
	if best.To == 0 {
		return api.Block{}, api.ErrNone
	}
	return best, api.OK
}

// closedSet returns the masks of a block as a set; false if they are not rising masks of so many jobs.
func closedSet(b api.Block, jobs int) ([]bool, bool) {
	set := make([]bool, allOf(jobs)+1)
	for i, mask := range b.Closed {
		if !isMask(mask, jobs) || i > 0 && mask <= b.Closed[i-1] {
			return nil, false
		}
		set[mask] = true
	}
	return set, true
}

// parts reports whether a set has all masks with few jobs that a block says, and none with many.
func parts(b api.Block, set []bool) bool {
	for mask, has := range set {
		if !has && size(mask) <= b.From || has && size(mask) >= b.To {
			return false
		}
	}
	return true
}

// CheckBlock reports whether a block shows that there is no plan.
func CheckBlock(w api.Work, b api.Block) api.Errno {
	if e := CheckWork(w); e != api.OK {
		return e
	}
	if b.From < 0 || b.From >= b.To || b.To > len(w.Jobs) {
		return api.ErrBlock
	}
	set, ok := closedSet(b, len(w.Jobs))
	if !ok || !parts(b, set) {
		return api.ErrBlock
	}
	for _, l := range w.Legs {
		if set[l.From] && !set[leadsTo(l)] {
			return api.ErrBlock
		}
	}
	return api.OK
}
