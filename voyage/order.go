package voyage

import (
	"cmp"
	"slices"

	"ullage/api"
)

// mostOrdered is the greatest number of steps for which an order is searched.
const mostOrdered = 7

// route is an order of steps that is under way.
type route struct {
	poise
	steps []api.Step
	order []int           // the steps that are done
	done  int             // the same steps, as a mask
	vain  map[int][]tanks // by the mask of the steps done: masses from which no order goes on
	now   []tanks         // the masses ahead of each step of order, and behind the last one
}

// may reports whether a step may be the next one.
func (r *route) may(i int) bool {
	now, bit := r.now[len(r.order)], 1<<i
	if r.done&bit != 0 || !r.keeps(now, r.steps[i]) {
		return false
	}
	// Where steps have one tank, their order tells which masses there are behind them.
	return !slices.Contains(r.vain[r.done|bit], now.behind(r.steps[i]))
}

// next is the first step, from i on, that may be the next one; the number of steps if none may be.
func (r *route) next(i int) int {
	for i < len(r.steps) && !r.may(i) {
		i++
	}
	return i
}

// push does a step.
func (r *route) push(i int) {
	now := r.now[len(r.order)]
	r.order = append(r.order, i)
	r.now = append(r.now, now.behind(r.steps[i]))
	r.done |= 1 << i
}

// pop takes the last step back, because no order goes on behind it, and returns it.
func (r *route) pop() int {
	last := len(r.order) - 1
	i := r.order[last]
	r.vain[r.done] = append(r.vain[r.done], r.now[last+1])
	r.order, r.now = r.order[:last], r.now[:last+1]
	r.done &^= 1 << i
	return i
}

// search completes the order with the first one there is; false if there is none.
func (r *route) search() bool {
	i := 0
search:
	for {
		i = r.next(i)
		switch {
		case len(r.order) == len(r.steps):
			break search
		case i < len(r.steps):
			r.push(i)
			i = 0
		case len(r.order) == 0:
			return false
		default:
			i = r.pop() + 1
		}
	}
	return true
}

// Order returns the first order of steps in which the moment surely stays within a limit.
func Order(m []api.Range, l []api.Step, arms []int, limit int) ([]int, api.Errno) {
	short := unless(len(l) <= mostOrdered, api.ErrLong)
	if e := cmp.Or(checkPoise(m, l, arms, limit), short); e != api.OK {
		return nil, e
	}
	r := &route{poise: poise{arms, limit}, steps: l, vain: map[int][]tanks{}, now: []tanks{tanksOf(m)}}
	if !r.search() {
		return nil, api.ErrNone
	}
	return r.order, api.OK
}
