package voyage_test

import (
	"math/rand"
	"slices"

	"ullage/api"
)

func span(lo, hi int) api.Range         { return api.Range{Lo: lo, Hi: hi} }
func one(n int) api.Range               { return span(n, n) }
func around(n int) api.Range            { return span(-n, n) }
func ranges(l ...api.Range) []api.Range { return l }

// passage is one, by the ends of its ranges.
func passage(hours, more, burn, most int) api.Passage {
	return api.Passage{Hours: span(hours, more), Burn: span(burn, most)}
}

// exampleL has the passages of the chapter's examples.
func exampleL() []api.Passage { return []api.Passage{passage(2, 3, 10, 12), passage(5, 5, 8, 9)} }

// step is one of a tank.
func step(tank, lo, hi int) api.Step { return api.Step{Tank: tank, To: span(lo, hi)} }

// clock is one of a hold.
func clock(hold, from, lo, hi int) api.Clock {
	return api.Clock{Hold: hold, From: from, For: span(lo, hi)}
}

// forecast is one for some hours.
func forecast(issued, from, to, lo, hi int) api.Forecast {
	return api.Forecast{Issued: issued, From: from, To: to, Value: span(lo, hi)}
}

// legs are such, from pairs of From and Add.
func legs(l ...int) []api.Leg {
	var all []api.Leg
	for pair := range slices.Chunk(l, 2) {
		all = append(all, api.Leg{From: pair[0], Add: pair[1]})
	}
	return all
}

// numbers has all numbers of a range.
func numbers(r api.Range) []int {
	var l []int
	for n := r.Lo; n <= r.Hi; n++ {
		l = append(l, n)
	}
	return l
}

// hullOf is the least range that has all numbers of a list that is not empty.
func hullOf(l []int) api.Range { return span(slices.Min(l), slices.Max(l)) }

// someRange is one within another one.
func someRange(r *rand.Rand, all api.Range) api.Range {
	a, b := all.Lo+r.Intn(all.Hi-all.Lo+1), all.Lo+r.Intn(all.Hi-all.Lo+1)
	return span(min(a, b), max(a, b))
}

// picked is a number of a range.
func picked(r *rand.Rand, x api.Range) int { return x.Lo + r.Intn(x.Hi-x.Lo+1) }

// trip is what passages have come to: the hours, and what is burnt, of each.
type trip struct{ hours, burnt []int }

// trips are those of all choices of hours and of what is burnt an hour.
func trips(l []api.Passage) []trip {
	all := []trip{{}}
	for _, p := range l {
		var longer []trip
		for _, t := range all {
			for _, h := range numbers(p.Hours) {
				for _, b := range numbers(p.Burn) {
					longer = append(longer, trip{append(slices.Clone(t.hours), h), append(slices.Clone(t.burnt), h*b)})
				}
			}
		}
		all = longer
	}
	return all
}

func sumOf(l []int) int {
	sum := 0
	for _, n := range l {
		sum += n
	}
	return sum
}

// isIn reports whether a trip is in a passage during an hour.
func (t trip) isIn(passage, hour int) bool {
	ahead := sumOf(t.hours[:passage])
	return ahead <= hour && hour < ahead+t.hours[passage]
}

// answerOf is what is so of all, of none or of some of the cases.
func answerOf(cases []bool) int {
	switch {
	case !slices.Contains(cases, false):
		return api.Yes
	case !slices.Contains(cases, true):
		return api.No
	}
	return api.Maybe
}

// chosen has a list for each choice of a number of each range.
func chosen(l []api.Range) [][]int {
	all := [][]int{nil}
	for _, r := range l {
		var longer [][]int
		for _, c := range all {
			for _, n := range numbers(r) {
				longer = append(longer, append(slices.Clone(c), n))
			}
		}
		all = longer
	}
	return all
}

// instants are all masses in whole kilograms that there may be: at first (of no step, -1), and while each step is done; and those behind it.
func instants(m []api.Range, l []api.Step) (during, behind [][][]int) {
	now := chosen(m)
	for _, s := range l {
		var while, next [][]int
		for _, masses := range now {
			for _, to := range numbers(s.To) {
				was := masses[s.Tank]
				for _, n := range numbers(span(min(was, to), max(was, to))) {
					part := slices.Clone(masses)
					part[s.Tank] = n
					while = append(while, part)
					if n == to {
						next = append(next, part)
					}
				}
			}
		}
		// The masses rest on each other only by the step: equal ones are left out.
		during, behind = append(during, distinct(while)), append(behind, distinct(next))
		now = behind[len(behind)-1]
	}
	return during, behind
}

// distinct has each list once.
func distinct(l [][]int) [][]int {
	slices.SortFunc(l, slices.Compare[[]int])
	return slices.CompactFunc(l, slices.Equal[[]int])
}

// hulls are those of masses, tank by tank.
func hulls(l [][]int) []api.Range {
	all := make([]api.Range, len(l[0]))
	for tank := range all {
		var seen []int
		for _, masses := range l {
			seen = append(seen, masses[tank])
		}
		all[tank] = hullOf(seen)
	}
	return all
}

// momentOf is that of masses.
func momentOf(masses, arms []int) int {
	sum := 0
	for i, n := range masses {
		sum += n * arms[i]
	}
	return sum
}

// firstTilt is the first step with an instant at which the moment is beyond the limit; -1 if there is none.
func firstTilt(m []api.Range, l []api.Step, arms []int, limit int) int {
	during, _ := instants(m, l)
	return slices.IndexFunc(during, func(l [][]int) bool {
		return slices.ContainsFunc(l, func(masses []int) bool { return max(momentOf(masses, arms), -momentOf(masses, arms)) > limit })
	})
}

// orders has all orders of the numbers below n, the first one first.
func orders(n int) [][]int {
	var all [][]int
	var longer func(l []int)
	longer = func(l []int) {
		if len(l) == n {
			all = append(all, slices.Clone(l))
		}
		for i := range n {
			if !slices.Contains(l, i) {
				longer(append(l, i))
			}
		}
	}
	longer(nil)
	return all
}

// inOrder has steps in an order.
func inOrder(l []api.Step, order []int) []api.Step {
	var all []api.Step
	for _, i := range order {
		all = append(all, l[i])
	}
	return all
}

// firstOrder is the first order of steps that never tilts.
func firstOrder(m []api.Range, l []api.Step, tilts func(m []api.Range, l []api.Step) int) ([]int, api.Errno) {
	for _, order := range orders(len(l)) {
		if tilts(m, inOrder(l, order)) == -1 {
			return order, api.OK
		}
	}
	return nil, api.ErrNone
}

// isClosed reports whether a hold is closed in a minute, where each clock has taken its number of minutes.
func isClosed(l []api.Clock, taken []int, hold, minute int) bool {
	for i, c := range l {
		if c.Hold == hold && slices.Contains(numbers(span(c.From, c.From+taken[i]-1)), minute) {
			return true
		}
	}
	return false
}

// closedAt is whether a hold is closed in a minute, by all choices of all clocks.
func closedAt(l []api.Clock, hold, minute int) int {
	var all []api.Range
	for _, c := range l {
		all = append(all, c.For)
	}
	var cases []bool
	for _, taken := range chosen(all) {
		cases = append(cases, isClosed(l, taken, hold, minute))
	}
	return answerOf(cases)
}

// areOpen reports whether all holds surely are open in a minute.
func areOpen(l []api.Clock, holds []int, minute int) bool {
	return !slices.ContainsFunc(holds, func(hold int) bool { return closedAt(l, hold, minute) != api.No })
}

// runsOf are the runs of the numbers of a range for which something is so.
func runsOf(r api.Range, is func(n int) bool) []api.Range {
	var l []api.Range
	for _, n := range numbers(r) {
		switch {
		case !is(n):
		case len(l) > 0 && l[len(l)-1].Hi == n-1:
			l[len(l)-1].Hi = n
		default:
			l = append(l, one(n))
		}
	}
	return l
}

// valuesAt has the numbers from -20 to 20 that an hour's value may be, and how many forecasts tell of it.
func valuesAt(l []api.Forecast, known, hour int) ([]int, int) {
	told, may := 0, numbers(around(20))
	for _, f := range l {
		if f.Issued <= known && f.From <= hour && hour <= f.To {
			told++
			may = slices.DeleteFunc(may, func(n int) bool { return n < f.Value.Lo || n > f.Value.Hi })
		}
	}
	return may, told
}

// knownAt is what is known of an hour.
func knownAt(l []api.Forecast, known, hour int) (api.Range, api.Errno) {
	may, told := valuesAt(l, known, hour)
	switch {
	case told == 0:
		return api.Range{}, api.ErrNone
	case len(may) == 0:
		return api.Range{}, api.ErrForecast
	}
	return hullOf(may), api.OK
}

// calmIn is whether the value is at most so much in all hours of a range.
func calmIn(l []api.Forecast, known int, hours api.Range, most int) int {
	calm, wild := 0, 0
	for _, hour := range numbers(hours) {
		r, e := knownAt(l, known, hour)
		if e == api.OK && r.Hi <= most {
			calm++
		}
		if e == api.OK && r.Lo > most {
			wild++
		}
	}
	switch {
	case wild > 0:
		return api.No
	case calm == hours.Hi-hours.Lo+1:
		return api.Yes
	}
	return api.Maybe
}

// dryIn is the first hour of so many that are calm.
func dryIn(l []api.Forecast, known int, hours api.Range, most, many int) (int, api.Errno) {
	for _, h := range numbers(hours) {
		if h+many-1 <= hours.Hi && calmIn(l, known, span(h, h+many-1), most) == api.Yes {
			return h, api.OK
		}
	}
	return 0, api.ErrNone
}

// plansFor has all plans for so many jobs, the first one first.
func plansFor(jobs int) [][]int {
	var all [][]int
	var longer func(l []int, done int)
	longer = func(l []int, done int) {
		if done == 1<<jobs-1 {
			all = append(all, slices.Clone(l))
		}
		for mask := 1; mask < 1<<jobs; mask++ {
			if mask&done == 0 {
				longer(append(l, mask), done+mask)
			}
		}
	}
	longer(nil, 0)
	return all
}

// jobsIn is how many jobs a mask has.
func jobsIn(mask int) int {
	n := 0
	for ; mask > 0; mask /= 2 {
		n += mask % 2
	}
	return n
}

// standsAt is the index of the mask of a plan that has a job.
func standsAt(l []int, job int) int {
	return slices.IndexFunc(l, func(mask int) bool { return mask>>job%2 == 1 })
}

// standAlike reports whether two jobs stand in both plans in one order.
func standAlike(a, b []int, i, j int) bool {
	x, y := standsAt(a, i)-standsAt(a, j), standsAt(b, i)-standsAt(b, j)
	return x < 0 && y < 0 || x == 0 && y == 0 || x > 0 && y > 0
}

// moves reports whether a plan moves the jobs of a mask, compared with another one.
func moves(a, b []int, jobs, mask int) bool {
	for i := range jobs {
		for j := range jobs {
			if mask>>i%2 == 0 && mask>>j%2 == 0 && !standAlike(a, b, i, j) {
				return false
			}
		}
	}
	return true
}

// movedIn is the mask of the fewest jobs that are moved.
func movedIn(a, b []int, jobs int) int {
	best := 1<<jobs - 1
	for mask := 1<<jobs - 1; mask >= 0; mask-- {
		if jobsIn(mask) <= jobsIn(best) && moves(a, b, jobs, mask) {
			best = mask
		}
	}
	return best
}

// allows reports whether there is a leg for each mask of a plan.
func allows(l []api.Leg, p []int) bool {
	done := 0
	for _, mask := range p {
		if !slices.Contains(l, api.Leg{From: done, Add: mask}) {
			return false
		}
		done += mask
	}
	return true
}

// changeOf is the allowed plan that moves the fewest jobs.
func changeOf(l []api.Leg, jobs int, told []int) ([]int, int, api.Errno) {
	var best []int
	least := 0
	for _, p := range plansFor(jobs) {
		if !allows(l, p) {
			continue
		}
		moved := movedIn(told, p, jobs)
		fewer := jobsIn(moved) - jobsIn(least)
		if best == nil || fewer < 0 || fewer == 0 && moved < least {
			best, least = p, moved
		}
	}
	if best == nil {
		return nil, 0, api.ErrNone
	}
	return best, least, api.OK
}

// allLegs are all that are valid for so many jobs.
func allLegs(jobs int) []api.Leg {
	var l []api.Leg
	for from := range 1 << jobs {
		for add := 1; add < 1<<jobs; add++ {
			if from&add == 0 {
				l = append(l, api.Leg{From: from, Add: add})
			}
		}
	}
	return l
}

// someLegs are those of all, each with so many chances of 100, in any order.
func someLegs(r *rand.Rand, jobs, chances int) []api.Leg {
	l := slices.DeleteFunc(allLegs(jobs), func(api.Leg) bool { return r.Intn(100) >= chances })
	r.Shuffle(len(l), func(i, j int) { l[i], l[j] = l[j], l[i] })
	return l[:min(len(l), api.MaxLegs)]
}

// somePlan is one for so many jobs.
func somePlan(r *rand.Rand, jobs int) []int {
	var l []int
	for _, job := range r.Perm(jobs) {
		if len(l) > 0 && r.Intn(3) == 0 {
			l[len(l)-1] += 1 << job
		} else {
			l = append(l, 1<<job)
		}
	}
	return l
}

// legsOf are those of a plan.
func legsOf(p []int) []api.Leg {
	var l []api.Leg
	done := 0
	for _, mask := range p {
		l = append(l, api.Leg{From: done, Add: mask})
		done += mask
	}
	return l
}
