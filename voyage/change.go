package voyage

import (
	"math/bits"
	"slices"

	"ullage/api"
)

// size is the number of jobs of a mask.
func size(mask int) int { return bits.OnesCount(uint(mask)) }

// allOf is the mask of so many jobs.
func allOf(jobs int) int { return 1<<jobs - 1 }

// isMask reports whether a number is a mask of at least one of all jobs.
func isMask(mask, all int) bool { return isBetween(mask, 1, all) }

// checkLegs checks legs for so many jobs.
func checkLegs(legs []api.Leg, jobs int) api.Errno {
	if !isBetween(jobs, 1, api.MaxJobs) {
		return api.ErrArg
	}
	all := allOf(jobs)
	isLeg := func(l api.Leg) bool {
		return isBetween(l.From, 0, all) && isMask(l.Add, all) && l.From&l.Add == 0
	}
	return checkList(legs, api.MaxLegs, isLeg, api.ErrArg)
}

// jobsOf is the mask of the jobs of a plan; 0 if a number of the list is no mask, or a job is in two of them.
func jobsOf(l []int) int {
	done := 0
	for _, mask := range l {
		if !isMask(mask, allOf(api.MaxJobs)) || mask&done != 0 {
			return 0
		}
		done |= mask
	}
	return done
}

// checkPlan reports whether a list is a plan for all jobs of a mask, of which there is at least one.
func checkPlan(l []int, all int) api.Errno { return unless(jobsOf(l) == all, api.ErrPlan) }

// isAllowed reports whether there is a leg for each mask of a plan.
func isAllowed(legs []api.Leg, l []int) bool {
	done := 0
	for _, mask := range l {
		if !slices.Contains(legs, api.Leg{From: done, Add: mask}) {
			return false
		}
		done |= mask
	}
	return true
}

// checkBoth checks legs for so many jobs, and then a plan for these.
func checkBoth(legs []api.Leg, jobs int, l []int) api.Errno {
	if e := checkLegs(legs, jobs); e != api.OK {
		return e
	}
	return checkPlan(l, allOf(jobs))
}

// CheckChain reports whether legs, one after the other, do jobs.
func CheckChain(legs []api.Leg, jobs int, l []int) api.Errno {
	if e := checkBoth(legs, jobs, l); e != api.OK {
		return e
	}
	return unless(isAllowed(legs, l), api.ErrMoved)
}

// without is a plan in which the jobs that are moved are left out.
func without(l []int, moved int) []int {
	var rest []int
	for _, mask := range l {
		if stays := mask &^ moved; stays != 0 {
			rest = append(rest, stays)
		}
	}
	return rest
}

// fewest is the mask with the fewest jobs of those that suit, and of several such the least one; false if none suits.
func fewest(all int, suits func(mask int) bool) (int, bool) {
	best, found := 0, false
	for mask := range all + 1 {
		if (!found || size(mask) < size(best)) && suits(mask) {
			best, found = mask, true
		}
	}
	return best, found
}

// movedOf is Moved for two plans for all jobs of a mask.
func movedOf(a, b []int, all int) int {
	// Without the moved jobs, all others stand in one order if and only if what remains of both plans is equal.
	moved, _ := fewest(all, func(mask int) bool { return slices.Equal(without(a, mask), without(b, mask)) })
	return moved
}

// Moved is a least set of jobs without which two plans have one order.
func Moved(a, b []int) (int, api.Errno) {
	all := jobsOf(a)
	// The jobs of a plan are all up to some number: a mask of the form 1..1 in binary.
	if all == 0 || all&(all+1) != 0 {
		return 0, api.ErrPlan
	}
	if e := checkPlan(b, all); e != api.OK {
		return 0, e
	}
	return movedOf(a, b, all), api.OK
}

// chart has, for each mask of jobs that may be done, what may be added to it, rising.
type chart struct {
	all  int
	adds [][]int
}

// chartOf is the chart of valid legs for so many jobs.
func chartOf(legs []api.Leg, jobs int) chart {
	c := chart{all: allOf(jobs)}
	c.adds = make([][]int, c.all+1)
	for _, l := range legs {
		c.adds[l.From] = append(c.adds[l.From], l.Add)
	}
	for _, adds := range c.adds {
		slices.Sort(adds)
	}
	return c
}

// due is the first mask of a list that is not done; 0 if there is none.
func due(l []int, done int) int {
	for _, mask := range l {
		if mask&done == 0 {
			return mask
		}
	}
	return 0
}

// plan returns the first allowed plan in which all jobs but the moved ones stand in the order of the plan told; false if there is none.
func (c chart) plan(told []int, moved int) ([]int, bool) {
	order := without(told, moved)
	hopeless := make([]bool, c.all+1)
	var from func(done int) ([]int, bool)
	from = func(done int) ([]int, bool) {
		if done == c.all {
			return nil, true
		}
		if hopeless[done] {
			return nil, false
		}
		for _, add := range c.adds[done] {
			if stays := add &^ moved; stays != 0 && stays != due(order, done) {
				continue
			}
			if rest, ok := from(done | add); ok {
				return slices.Insert(rest, 0, add), true
			}
		}
		hopeless[done] = true
		return nil, false
	}
	return from(0)
}

// least is the mask of the fewest jobs that an allowed plan moves; false if there is no allowed plan.
func (c chart) least(told []int) (int, bool) {
	return fewest(c.all, func(mask int) bool {
		_, ok := c.plan(told, mask)
		return ok
	})
}

// Change returns a plan that moves the fewest jobs, and these.
func Change(legs []api.Leg, jobs int, told []int) ([]int, int, api.Errno) {
	if e := checkBoth(legs, jobs, told); e != api.OK {
		return nil, 0, e
	}
	c := chartOf(legs, jobs)
	moved, ok := c.least(told)
	if !ok {
		return nil, 0, api.ErrNone
	}
	// No allowed plan moves fewer jobs, so that the mask is Moved of each one that moves just these.
	l, _ := c.plan(told, moved)
	return l, moved, api.OK
}

// CheckChange reports whether a plan moves the fewest jobs.
func CheckChange(legs []api.Leg, jobs int, told, l []int) api.Errno {
	if e := checkBoth(legs, jobs, told); e != api.OK {
		return e
	}
	if e := CheckChain(legs, jobs, l); e != api.OK {
		return e
	}
	least, _ := chartOf(legs, jobs).least(told)
	moved := movedOf(told, l, allOf(jobs))
	return unless(size(moved) == size(least), api.ErrMoved)
}
