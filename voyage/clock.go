package voyage

import (
	"cmp"
	"slices"

	"ullage/api"
)

// lastMinute is the last one that may be asked for. All clocks have ended by then.
const lastMinute = 2 * api.MaxMinute

// isHold reports whether a number is that of a hold.
func isHold(hold int) bool { return isBetween(hold, 0, api.MaxHolds-1) }

// isClock reports whether a clock is valid.
func isClock(c api.Clock) bool {
	return isHold(c.Hold) && isBetween(c.From, 0, api.MaxMinute) && isUpTo(c.For, api.MaxMinute)
}

// CheckClocks reports whether clocks are valid.
func CheckClocks(l []api.Clock) api.Errno {
	return checkList(l, api.MaxClocks, isClock, api.ErrClock)
}

// teller says of minutes whether something is closed.
type teller interface {
	says(minute int) int  // api.Yes, No or Maybe
	until(minute int) int // the first minute behind this one in which it may begin, or cease, to say No
}

// fumigation is a clock's.
type fumigation api.Clock

func (f fumigation) says(minute int) int {
	past := minute - f.From
	switch {
	case !isBetween(past, 0, f.For.Hi-1):
		return api.No
	case past < f.For.Lo:
		return api.Yes
	}
	return api.Maybe
}

func (f fumigation) until(minute int) int {
	for _, n := range [...]int{f.From, f.From + f.For.Hi} {
		if n > minute {
			return n
		}
	}
	return lastMinute + 1
}

// together says what several tellers say: closed is what at least one of them says to be closed.
type together []teller

func (l together) says(minute int) int {
	answer := api.No
	for _, t := range l {
		switch t.says(minute) {
		case api.Yes:
			return api.Yes
		case api.Maybe:
			answer = api.Maybe
		}
	}
	return answer
}

func (l together) until(minute int) int {
	first := lastMinute + 1
	for _, t := range l {
		first = min(first, t.until(minute))
	}
	return first
}

// tellerOf says what the clocks of holds say.
func tellerOf(l []api.Clock, holds ...int) teller {
	var all together
	for _, c := range l {
		if slices.Contains(holds, c.Hold) {
			all = append(all, fumigation(c))
		}
	}
	return all
}

// checkAsked checks clocks, and what is asked of them.
func checkAsked(l []api.Clock, holds []int, minutes ...int) api.Errno {
	notHold := func(hold int) bool { return !isHold(hold) }
	noMinute := func(minute int) bool { return !isBetween(minute, 0, lastMinute) }
	ok := !slices.ContainsFunc(holds, notHold) && !slices.ContainsFunc(minutes, noMinute)
	return cmp.Or(CheckClocks(l), unless(ok, api.ErrArg))
}

// Closed answers whether a hold is closed at a minute.
func Closed(l []api.Clock, hold, minute int) (int, api.Errno) {
	if e := checkAsked(l, []int{hold}, minute); e != api.OK {
		return 0, e
	}
	return tellerOf(l, hold).says(minute), api.OK
}

// Open returns the first minute from a minute on at which holds surely are open.
func Open(l []api.Clock, holds []int, minute int) (int, api.Errno) {
	if e := checkAsked(l, holds, minute); e != api.OK {
		return 0, e
	}
	t := tellerOf(l, holds...)
	for t.says(minute) != api.No {
		minute = t.until(minute)
	}
	return minute, api.OK
}

// extended has one more run, which begins behind all others. It makes the last one longer if there is no minute in between.
func extended(runs []api.Range, r api.Range) []api.Range {
	last := len(runs) - 1
	if last >= 0 && runs[last].Hi+1 == r.Lo {
		runs[last].Hi = r.Hi
		return runs
	}
	return append(runs, r)
}

// Free returns the times at which a hold surely is open.
func Free(l []api.Clock, hold, from, to int) ([]api.Range, api.Errno) {
	if e := cmp.Or(checkAsked(l, []int{hold}, from, to), unless(from <= to, api.ErrArg)); e != api.OK {
		return nil, e
	}
	t := tellerOf(l, hold)
	var runs []api.Range
	for at, next := from, 0; at <= to; at = next {
		next = t.until(at)
		if t.says(at) == api.No {
			runs = extended(runs, api.Range{Lo: at, Hi: min(next-1, to)})
		}
	}
	return runs, api.OK
}
