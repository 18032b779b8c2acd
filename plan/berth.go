package plan

import (
	"cmp"
	"iter"

	"ullage/api"
)

// isSpan reports whether a span has minutes, and none that is too late.
func isSpan(s api.Span) bool { return 0 <= s.From && s.From < s.To && s.To <= api.MaxTime }

// areSpans reports whether spans are valid.
func areSpans(l []api.Span) bool {
	if len(l) > api.MaxSpans {
		return false
	}
	for i, s := range l {
		if !isSpan(s) || i > 0 && s.From <= l[i-1].To {
			return false
		}
	}
	return true
}

// CheckBerth reports whether a berth is valid.
func CheckBerth(b api.Berth) api.Errno {
	if !areSpans(b.Open) || !areSpans(b.Rain) {
		return api.ErrBerth
	}
	return api.OK
}

// demand is what a leg needs of a berth: so many minutes, and none of those in which rain would harm it.
type demand struct {
	minutes int
	rain    []api.Span
}

// demandOf is what a leg of valid work needs of a berth.
func demandOf(w api.Work, l api.Leg, b api.Berth) demand {
	var d demand
	for job := range chosen(w.Jobs, l.Add) {
		d.minutes = max(d.minutes, job.Minutes)
		if job.Dry {
			d.rain = b.Rain
		}
	}
	return d
}

// dry yields the parts of a span without rain, in order; some may have no minutes.
func dry(s api.Span, rain []api.Span) iter.Seq[api.Span] {
	return func(yield func(api.Span) bool) {
		from := s.From
		for _, wet := range rain {
			if !yield(api.Span{From: from, To: min(s.To, wet.From)}) {
				return
			}
			from = max(from, wet.To)
		}
		yield(api.Span{From: from, To: s.To})
	}
}

// earliest is the span of a leg that is done as early as it may be, from a minute on; false if it is not done.
func earliest(open []api.Span, d demand, from int) (api.Span, bool) {
	var done api.Span
	left := d.minutes
search:
	for _, span := range open {
		for run := range dry(span, d.rain) {
			run.From = max(run.From, from)
			if run.From >= run.To {
				continue
			}
			if left == d.minutes {
				done.From = run.From
			}
			used := min(left, run.To-run.From)
			left -= used
			if left == 0 {
				done.To = run.From + used
				break search
			}
		}
	}
	return done, left == 0
}

// checkCall reports whether there is work, with a plan of it, and a valid berth.
func checkCall(w api.Work, p api.Plan, b api.Berth) api.Errno {
	return cmp.Or(CheckPlan(w, p), CheckBerth(b))
}

// Times returns when the legs of a plan are done, each as early as it may be.
func Times(w api.Work, p api.Plan, b api.Berth, from int) ([]api.Span, api.Errno) {
	if e := checkCall(w, p, b); e != api.OK {
		return nil, e
	}
	if !isBetween(from, 0, api.MaxTime) {
		return nil, api.ErrArg
	}
	var l []api.Span
	for _, i := range p.Legs {
		span, ok := earliest(b.Open, demandOf(w, w.Legs[i], b), from)
		if !ok {
			return nil, api.ErrLate
		}
		l = append(l, span)
		from = span.To
	}
	return l, api.OK
}

// served is the number of minutes of a span that serve a leg.
func served(open []api.Span, d demand, in api.Span) int {
	n := 0
	for _, span := range open {
		for run := range dry(span, d.rain) {
			n += max(0, min(run.To, in.To)-max(run.From, in.From))
		}
	}
	return n
}

// CheckTimes reports whether the legs of a plan can be done at some times.
func CheckTimes(w api.Work, p api.Plan, b api.Berth, l []api.Span) api.Errno {
	if e := checkCall(w, p, b); e != api.OK {
		return e
	}
	if len(l) != len(p.Legs) {
		return api.ErrArg
	}
	ready := 0
	for k, span := range l {
		d := demandOf(w, w.Legs[p.Legs[k]], b)
		if !isSpan(span) || span.From < ready || served(b.Open, d, span) < d.minutes {
			return api.ErrLate
		}
		ready = span.To
	}
	return api.OK
}
