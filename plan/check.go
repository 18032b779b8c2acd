package plan

import "ullage/api"

// isBetween reports whether n is from least to most.
func isBetween(n, least, most int) bool { return least <= n && n <= most }

// isMask reports whether a number is a mask of so many jobs (or spouts).
func isMask(mask, jobs int) bool { return isBetween(mask, 0, allOf(jobs)) }

// isJob reports whether a job is valid.
func isJob(j api.Job) bool {
	return isBetween(j.Cost, 0, api.MaxCost) && isBetween(j.Spout, 0, api.MaxSpouts-1) && isBetween(j.Minutes, 1, api.MaxMinutes)
}

// areJobs reports whether all jobs are valid.
func areJobs(l []api.Job) bool {
	for _, j := range l {
		if !isJob(j) {
			return false
		}
	}
	return true
}

// isLeg reports whether a leg is valid for jobs, which are so themselves.
func isLeg(jobs []api.Job, l api.Leg) bool {
	if !isMask(l.From, len(jobs)) || !isMask(l.Add, len(jobs)) || l.From&l.Add != 0 {
		return false
	}
	adds := size(l.Add)
	// Two jobs run together only by two spouts.
	return isBetween(adds, 1, 2) && size(spoutsOf(jobs, l.Add)) == adds
}

// areLegs reports whether all legs are valid for valid jobs, and no two are equal.
func areLegs(jobs []api.Job, legs []api.Leg) bool {
	seen := map[api.Leg]bool{}
	for _, l := range legs {
		if !isLeg(jobs, l) || seen[l] {
			return false
		}
		seen[l] = true
	}
	return true
}

// CheckWork reports whether work is valid.
func CheckWork(w api.Work) api.Errno {
	if !isBetween(len(w.Jobs), 1, api.MaxJobs) || !areJobs(w.Jobs) || !isBetween(w.Change, 0, api.MaxCost) {
		return api.ErrWork
	}
	if len(w.Legs) > api.MaxLegs || !areLegs(w.Jobs, w.Legs) {
		return api.ErrWork
	}
	return api.OK
}

// checkJob reports whether valid work has a job.
func checkJob(w api.Work, job int) api.Errno {
	if !isBetween(job, 0, len(w.Jobs)-1) {
		return api.ErrArg
	}
	return api.OK
}

// CheckPlan reports whether a plan does the work.
func CheckPlan(w api.Work, p api.Plan) api.Errno {
	if e := CheckWork(w); e != api.OK {
		return e
	}
	done := 0
	for _, i := range p.Legs {
		if !isBetween(i, 0, len(w.Legs)-1) || w.Legs[i].From != done {
			return api.ErrPlan
		}
		done = leadsTo(w.Legs[i])
	}
	if done != allOf(len(w.Jobs)) {
		return api.ErrPlan
	}
	return api.OK
}
