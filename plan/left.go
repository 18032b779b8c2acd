package plan

import (
	"cmp"
	"slices"

	"ullage/api"
)

// leaveOut is a mask without a job; the jobs with greater numbers get numbers less by 1.
func leaveOut(mask, job int) int {
	below := mask & (1<<job - 1)
	return below | mask>>(job+1)<<job
}

// without is valid work without one of its jobs.
func without(w api.Work, job int) api.Work {
	left := api.Work{Jobs: slices.Concat(w.Jobs[:job], w.Jobs[job+1:]), Change: w.Change}
	seen := map[api.Leg]bool{}
	for _, l := range w.Legs {
		l = api.Leg{From: leaveOut(l.From, job), Add: leaveOut(l.Add, job)}
		if l.Add != 0 && !seen[l] {
			left.Legs = append(left.Legs, l)
		}
		seen[l] = true
	}
	return left
}

// checkOther reports whether work has another job than one.
func checkOther(w api.Work) api.Errno {
	if len(w.Jobs) == 1 {
		return api.ErrNone
	}
	return api.OK
}

// Without is the work without a job.
func Without(w api.Work, job int) (api.Work, api.Errno) {
	if e := cmp.Or(CheckWork(w), checkJob(w, job), checkOther(w)); e != api.OK {
		return api.Work{}, e
	}
	return without(w, job), api.OK
}

// Spare returns the jobs without which there is a plan.
func Spare(w api.Work) ([]int, api.Errno) {
	if e := CheckWork(w); e != api.OK {
		return nil, e
	}
	var l []int
	for job := range w.Jobs {
		if checkOther(w) == api.OK && countOf(without(w, job)) > 0 {
			l = append(l, job)
		}
	}
	return l, api.OK
}
