package desk

import (
	"cmp"
	"math/bits"

	"ullage/api"
	"ullage/fix"
	"ullage/hold"
	"ullage/plan"
)

// jobsOf are the jobs of tasks.
func jobsOf(l []api.Task) []api.Job {
	var jobs []api.Job
	for _, t := range l {
		jobs = append(jobs, t.Job)
	}
	return jobs
}

// checkPour reports whether there is a hold for a pour, and its ranges may be as they are.
func checkPour(holds []api.Hold, p api.Pour) api.Errno {
	_, e := hold.Litres(p.Mass, p.Density)
	return cmp.Or(unless(holdAt(holds, p.Hold) >= 0, api.ErrHold), fix.CheckRange(p.Mass), unless(p.Mass.Lo >= 0, api.ErrArg), e)
}

// checkTasks reports whether the jobs of tasks are work, and their pours may be as they are.
func checkTasks(holds []api.Hold, l []api.Task, change int) api.Errno {
	if e := plan.CheckWork(api.Work{Jobs: jobsOf(l), Change: change}); e != api.OK {
		return e
	}
	for _, t := range l {
		if e := checkPour(holds, t.Pour); e != api.OK {
			return e
		}
	}
	return api.OK
}

// outcome is the voyage of a mask of tasks, if there is one.
type outcome struct {
	api.Voyage
	ok bool
}

// outcomes are those of all masks of tasks, from a valid voyage on.
func outcomes(v api.Voyage, l []api.Task) []outcome {
	all := []outcome{{v, true}}
	for mask := 1; mask < 1<<len(l); mask++ {
		// The last task that is poured is the one with the greatest index.
		last := bits.Len(uint(mask)) - 1
		o := all[mask&^(1<<last)]
		if o.ok {
			w, e := poured(o.Voyage, l[last].Pour)
			o = outcome{w, e == api.OK}
		}
		all = append(all, o)
	}
	return all
}

// holdsOf are the indices of the holds of the tasks of a mask.
func holdsOf(holds []api.Hold, l []api.Task, mask int) []int {
	var all []int
	for i, t := range l {
		if mask&(1<<i) != 0 {
			all = append(all, holdAt(holds, t.Pour.Hold))
		}
	}
	return all
}

// isLeg reports whether a leg is valid for the jobs of valid work.
func isLeg(jobs []api.Job, l api.Leg) bool {
	return plan.CheckWork(api.Work{Jobs: jobs, Legs: []api.Leg{l}}) == api.OK
}

// isSafe reports whether a stage from an outcome to another one surely keeps the rules at each instant. It has one hold, or two.
func isSafe(from, to outcome, holds []int) bool {
	if !from.ok || !to.ok || len(holds) == 2 && holds[0] == holds[1] {
		return false
	}
	_, _, e := stage{from.Voyage, to.Voyage, holds}.judged()
	return e == api.OK
}

// safeLegs are the legs of valid tasks that surely keep the rules at each instant.
func safeLegs(v api.Voyage, l []api.Task) []api.Leg {
	jobs, all := jobsOf(l), outcomes(v, l)
	var legs []api.Leg
	for from := range all {
		for add := range all {
			leg := api.Leg{From: from, Add: add}
			if isLeg(jobs, leg) && isSafe(all[from], all[from+add], holdsOf(v.Holds, l, add)) {
				legs = append(legs, leg)
			}
		}
	}
	return legs
}

// Work returns the work of tasks, with the stages that surely keep the rules at each instant.
func Work(v api.Voyage, l []api.Task, change int) (api.Work, api.Errno) {
	if e := CheckVoyage(v); e != api.OK {
		return api.Work{}, e
	}
	switch {
	case len(l) == 0:
		return api.Work{}, api.ErrNone
	case len(l) > api.MaxTasks:
		return api.Work{}, api.ErrLong
	}
	if e := checkTasks(v.Holds, l, change); e != api.OK {
		return api.Work{}, e
	}
	return api.Work{Jobs: jobsOf(l), Change: change, Legs: safeLegs(v, l)}, api.OK
}
