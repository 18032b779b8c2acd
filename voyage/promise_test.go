package voyage_test

import (
	"math/rand"
	"slices"
	"testing"

	"ullage/api"
	"ullage/voyage"
)

// has reports whether a range has a number.
func has(r api.Range, n int) bool { return r.Lo <= n && n <= r.Hi }

// greatPassages are any within the limits.
func greatPassages(r *rand.Rand) []api.Passage {
	var l []api.Passage
	for range r.Intn(api.MaxPassages + 1) {
		l = append(l, api.Passage{Hours: someRange(r, span(0, api.MaxHours/(1+r.Intn(1000)))), Burn: someRange(r, span(0, api.MaxBurn/(1+r.Intn(1000))))})
	}
	return l
}

// tripOf is a trip whose numbers pick takes from the ranges.
func tripOf(l []api.Passage, pick func(r api.Range) int) trip {
	var t trip
	for _, p := range l {
		h := pick(p.Hours)
		t.hours, t.burnt = append(t.hours, h), append(t.burnt, h*pick(p.Burn))
	}
	return t
}

func least(r api.Range) int    { return r.Lo }
func greatest(r api.Range) int { return r.Hi }

// TestSumsOfPassages is P7.2: sums of any numbers lie in what is told, and the least and the greatest ones are its ends.
func TestSumsOfPassages(t *testing.T) {
	r := rand.New(rand.NewSource(701))
	for range 400 {
		l, mass := greatPassages(r), someRange(r, span(0, 10*api.MaxLevel/(1+r.Intn(1000))))
		hours, _ := voyage.Hours(l)
		burnt, _ := voyage.Burnt(l)
		left, e := voyage.Left(mass, l)
		low, high := tripOf(l, least), tripOf(l, greatest)
		if e != api.OK || len(left) != len(l) || hours != span(sumOf(low.hours), sumOf(high.hours)) || burnt != span(sumOf(low.burnt), sumOf(high.burnt)) {
			t.Fatalf("%v: %v, %v, %v %d", l, hours, burnt, left, e)
		}
		for range 20 {
			x, m := tripOf(l, func(x api.Range) int { return picked(r, x) }), picked(r, mass)
			if !has(hours, sumOf(x.hours)) || !has(burnt, sumOf(x.burnt)) {
				t.Errorf("%v: %v is not in %v and %v", l, x, hours, burnt)
			}
			for i := range l {
				m = max(0, m-x.burnt[i])
				if !has(left[i], m) {
					t.Errorf("%v from %v: %d is not in %v", l, mass, m, left[i])
				}
			}
		}
		for i := range l {
			if want := span(max(0, mass.Lo-sumOf(high.burnt[:i+1])), max(0, mass.Hi-sumOf(low.burnt[:i+1]))); left[i] != want {
				t.Errorf("%v from %v: %v left behind %d, want %v", l, mass, left[i], i, want)
			}
		}
	}
}

// TestNeedIsLeast is P7.2: with the mass of Need what is left is at least the reserve, and with one kilogram less it may not be.
func TestNeedIsLeast(t *testing.T) {
	r := rand.New(rand.NewSource(702))
	asked := 0
	for range 800 {
		l, reserve := greatPassages(r), r.Intn(api.MaxLevel+1)
		need, e := voyage.Need(l, reserve)
		if e != api.OK || need-sumOf(tripOf(l, greatest).burnt) != reserve {
			t.Errorf("Need of %v and %d: %d %d", l, reserve, need, e)
		}
		if need > 10*api.MaxLevel || need == 0 {
			continue
		}
		asked++
		if n, _ := voyage.Enough(one(need), l, reserve); n != api.Yes {
			t.Errorf("Enough of %d, %v and %d: %d", need, l, reserve, n)
		}
		if n, _ := voyage.Enough(one(need-1), l, reserve); n == api.Yes {
			t.Errorf("Enough of %d, %v and %d: Yes", need-1, l, reserve)
		}
	}
	if asked < 100 {
		t.Error("too few cases:", asked)
	}
}

// parted are masses in thousandths of a kilogram, while a step of which so many thousandths are done leads from some masses to others.
func parted(from, to []int, part int) []int {
	var l []int
	for i := range from {
		l = append(l, from[i]*(1000-part)+to[i]*part)
	}
	return l
}

// greatBallast has any masses, steps and arms within the limits.
func greatBallast(r *rand.Rand) ([]api.Range, []api.Step, []int) {
	var m []api.Range
	var arms []int
	for range 1 + r.Intn(api.MaxBallast) {
		m, arms = append(m, someRange(r, span(0, api.MaxLevel))), append(arms, picked(r, around(api.MaxArm)))
	}
	var l []api.Step
	for range r.Intn(api.MaxSteps + 1) {
		l = append(l, api.Step{Tank: r.Intn(len(m)), To: someRange(r, span(0, api.MaxLevel))})
	}
	return m, l, arms
}

// TestInstants is P7.3: at each instant the masses lie in During, and, up to the first step that tilts, the moment within the limit. (What is less than the limit by one is too little for some masses.)
func TestInstants(t *testing.T) {
	r := rand.New(rand.NewSource(703))
	for range 300 {
		m, l, arms := greatBallast(r)
		during, _ := voyage.During(m, l)
		after, _ := voyage.After(m, l)
		limit := 0
		for _, while := range during {
			x, _ := voyage.Moment(while, arms)
			limit = max(limit, x.Hi, -x.Lo)
		}
		if i, e := voyage.Tilts(m, l, arms, limit); i != -1 || e != api.OK {
			t.Errorf("Tilts of %v, %v, %v and %d: %d %d", m, l, arms, limit, i, e)
		}
		if limit > 0 {
			if i, _ := voyage.Tilts(m, l, arms, limit-1); i == -1 {
				t.Errorf("Tilts of %v, %v, %v and %d: -1", m, l, arms, limit-1)
			}
		}
		for range 10 {
			var now []int
			for _, x := range m {
				now = append(now, picked(r, x))
			}
			for i, s := range l {
				next := slices.Clone(now)
				next[s.Tank] = picked(r, s.To)
				part := parted(now, next, []int{0, r.Intn(1001), 1000}[r.Intn(3)])
				for tank, n := range part {
					if !has(span(during[i][tank].Lo*1000, during[i][tank].Hi*1000), n) || !has(after[i][tank], next[tank]) {
						t.Errorf("%v, %v: %d and %d are not in %v and %v", m, l, n, next, during[i], after[i])
					}
				}
				if moment := momentOf(part, arms); !has(around(limit*1000), moment) {
					t.Errorf("%v, %v, %v: the moment %d is beyond %d thousand", m, l, arms, moment, limit)
				}
				now = next
			}
		}
	}
}

// longClocks are any within the limits, of few holds.
func longClocks(r *rand.Rand) []api.Clock {
	var l []api.Clock
	for range r.Intn(api.MaxClocks + 1) {
		l = append(l, api.Clock{Hold: r.Intn(3), From: r.Intn(api.MaxMinute + 1), For: someRange(r, span(0, api.MaxMinute/(1+r.Intn(20))))})
	}
	return l
}

// isShut reports whether a hold is closed in a minute where clocks take these numbers.
func isShut(l []api.Clock, taken []int, hold, minute int) bool {
	for i, c := range l {
		if c.Hold == hold && c.From <= minute && minute < c.From+taken[i] {
			return true
		}
	}
	return false
}

// edges are the minutes about which clocks say something new, and those beside them.
func edges(l []api.Clock) []int {
	all := []int{0, 2 * api.MaxMinute}
	for _, c := range l {
		for _, n := range []int{c.From, c.From + c.For.Lo, c.From + c.For.Hi} {
			all = append(all, max(0, n-1), n, min(n+1, 2*api.MaxMinute))
		}
	}
	slices.Sort(all)
	return slices.Compact(all)
}

// TestClocks is P7.4: what is said holds for all numbers, and both cases come about where it is Maybe.
func TestClocks(t *testing.T) {
	r := rand.New(rand.NewSource(704))
	for range 150 {
		l := longClocks(r)
		var few, many, any []int
		for _, c := range l {
			few, many, any = append(few, c.For.Lo), append(many, c.For.Hi), append(any, picked(r, c.For))
		}
		for _, minute := range edges(l) {
			hold := r.Intn(3)
			n, e := voyage.Closed(l, hold, minute)
			least, most, some := isShut(l, few, hold, minute), isShut(l, many, hold, minute), isShut(l, any, hold, minute)
			if e != api.OK || n != answerOf([]bool{least, most}) || n == api.Yes && !some || n == api.No && some {
				t.Errorf("Closed of %v, %d and %d: %d %d, but %v, %v, %v", l, hold, minute, n, e, least, some, most)
			}
		}
	}
}

// TestOpenIsFirst is P7.4: at the minute of Open all holds surely are open, and at none ahead of it; Free tells the same.
func TestOpenIsFirst(t *testing.T) {
	r := rand.New(rand.NewSource(705))
	for range 300 {
		l, holds, from := longClocks(r), []int{r.Intn(3), r.Intn(3)}, r.Intn(2*api.MaxMinute+1)
		var most []int
		for _, c := range l {
			most = append(most, c.For.Hi)
		}
		sure := func(minute int, holds ...int) bool {
			return !slices.ContainsFunc(holds, func(hold int) bool { return isShut(l, most, hold, minute) })
		}
		at, e := voyage.Open(l, holds, from)
		if e != api.OK || !sure(at, holds...) {
			t.Errorf("Open of %v, %v and %d: %d %d", l, holds, from, at, e)
		}
		runs, _ := voyage.Free(l, holds[0], from, 2*api.MaxMinute)
		for i, x := range runs {
			if x.Lo > x.Hi || i > 0 && x.Lo < runs[i-1].Hi+2 {
				t.Errorf("Free of %v, %d and %d: %v", l, holds[0], from, runs)
			}
		}
		for _, minute := range append(edges(l), from) {
			if from <= minute && minute < at && sure(minute, holds...) {
				t.Errorf("Open of %v, %v and %d: %d, but %d is free", l, holds, from, at, minute)
			}
			free := slices.ContainsFunc(runs, func(x api.Range) bool { return has(x, minute) })
			if minute >= from && free != sure(minute, holds[0]) {
				t.Errorf("Free of %v, %d and %d: %v at %d", l, holds[0], from, runs, minute)
			}
		}
	}
}

// likely are forecasts that all have the value 5, so that they do not contradict each other.
func likely(r *rand.Rand, n int) []api.Forecast {
	var l []api.Forecast
	for range n {
		hours := someRange(r, span(0, 12))
		l = append(l, api.Forecast{Issued: r.Intn(6), From: hours.Lo, To: hours.Hi, Value: span(5-r.Intn(9), 5+r.Intn(9))})
	}
	return l
}

// TestWhatIsKnownStays is P7.5.
func TestWhatIsKnownStays(t *testing.T) {
	r := rand.New(rand.NewSource(706))
	stayed := map[int]int{}
	for range 3000 {
		l, known := likely(r, r.Intn(6)), r.Intn(6)
		later := known + r.Intn(3)
		more := append(likely(r, r.Intn(3)), append(slices.Clone(l), likely(r, r.Intn(3))...)...)
		hour := r.Intn(13)
		a, e := voyage.Known(l, known, hour)
		b, f := voyage.Known(more, later, hour)
		if e == api.OK && (f != api.OK || b.Lo < a.Lo || b.Hi > a.Hi) {
			t.Errorf("%v of %v at %d, but %v %d of %v at %d", a, l, known, b, f, more, later)
		}
		hours, most := someRange(r, span(0, 12)), r.Intn(16)-2
		was, _ := voyage.Calm(l, known, hours.Lo, hours.Hi, most)
		is, _ := voyage.Calm(more, later, hours.Lo, hours.Hi, most)
		stayed[was]++
		if was != api.Maybe && is != was {
			t.Errorf("Calm of %v, at most %d: %d of %v at %d, %d of %v at %d", hours, most, was, l, known, is, more, later)
		}
	}
	if stayed[api.Yes] < 100 || stayed[api.No] < 100 {
		t.Error("too few cases:", stayed)
	}
}

// TestLeastChange is P7.6, for as many jobs and legs as there may be.
func TestLeastChange(t *testing.T) {
	r := rand.New(rand.NewSource(707))
	changed := 0
	for range 120 {
		jobs := 5 + r.Intn(4)
		told := somePlan(r, jobs)
		l := someLegs(r, jobs, 3+r.Intn(60))
		p, moved, e := voyage.Change(l, jobs, told)
		if e != api.OK {
			continue
		}
		if jobsIn(moved) > 0 {
			changed++
		}
		if voyage.CheckChain(l, jobs, p) != api.OK || !moves(told, p, jobs, moved) {
			t.Errorf("Change of %v and %v: %v, %d", l, told, p, moved)
		}
		expectMoved(t, told, p, moved, api.OK)
		expectCheckChange(t, l, jobs, told, p, api.OK)
		// A plan that moves fewer jobs is not allowed.
		for range 200 {
			q := withMoved(r, told, jobs, jobsIn(moved)-1)
			n, f := voyage.Moved(told, q)
			if f != api.OK || jobsIn(n) >= jobsIn(moved) && moved > 0 || jobsIn(n) < jobsIn(moved) && allows(l, q) {
				t.Errorf("Change of %v and %v: %v, but %v is allowed", l, told, p, q)
			}
		}
		// What was told stays if it is allowed.
		allowed := append(slices.Clone(l[:min(len(l), 2990)]), legsOf(told)...)
		expectChange(t, allowed, jobs, told, told, 0, api.OK)
		expectCheckChange(t, allowed, jobs, told, told, api.OK)
		if moved != 0 {
			expectCheckChange(t, allowed, jobs, told, p, api.ErrMoved)
		}
	}
	if changed < 30 {
		t.Error("too few cases:", changed)
	}
}

// withMoved is a plan in which at most so many jobs stand elsewhere.
func withMoved(r *rand.Rand, told []int, jobs, most int) []int {
	p := slices.Clone(told)
	for _, job := range r.Perm(jobs)[:max(0, most)] {
		at := standsAt(p, job)
		if p[at] -= 1 << job; p[at] == 0 {
			p = slices.Delete(p, at, at+1)
		}
		if at = r.Intn(len(p) + 1); at < len(p) && r.Intn(2) == 0 {
			p[at] += 1 << job
		} else {
			p = slices.Insert(p, at, 1<<job)
		}
	}
	return p
}

// TestMovedIsADistance is P7.7.
func TestMovedIsADistance(t *testing.T) {
	far := func(a, b []int) int {
		n, e := voyage.Moved(a, b)
		m, f := voyage.Moved(b, a)
		if e != api.OK || f != api.OK || jobsIn(n) != jobsIn(m) || (n == 0) != slices.Equal(a, b) {
			t.Errorf("Moved of %v and %v: %d %d, %d %d", a, b, n, e, m, f)
		}
		return jobsIn(n)
	}
	for _, a := range plansFor(3) {
		for _, b := range plansFor(3) {
			for _, c := range plansFor(3) {
				if far(a, c) > far(a, b)+far(b, c) {
					t.Error("from", a, "by", b, "to", c)
				}
			}
		}
	}
	r := rand.New(rand.NewSource(708))
	for range 1500 {
		jobs := 4 + r.Intn(5)
		a := somePlan(r, jobs)
		b := withMoved(r, a, jobs, r.Intn(4))
		c := withMoved(r, b, jobs, r.Intn(4))
		if far(a, c) > far(a, b)+far(b, c) {
			t.Error("from", a, "by", b, "to", c)
		}
	}
}
