package plan_test

import (
	"math"
	"math/rand"
	"slices"
	"testing"

	"ullage/api"
	"ullage/plan"
)

func exampleP() api.Plan { return planOf(0, 2) }

func exampleBerth() api.Berth {
	return api.Berth{Open: spans(0, 100, 200, 300), Rain: spans(70, 80)}
}

func TestExamplesOfTimes(t *testing.T) {
	l, e := plan.Times(exampleW(), exampleP(), exampleBerth(), 10)
	if !slices.Equal(l, spans(10, 70, 80, 210)) || e != api.OK {
		t.Error(l, e)
	}
	b := exampleBerth()
	b.Open = b.Open[:1]
	if l, e := plan.Times(exampleW(), exampleP(), b, 10); len(l) != 0 || e != api.ErrLate {
		t.Error(l, e)
	}
}

// TestTimesByHand: the legs have 60 and 30 minutes, and the second one is dry; of the plan {0, 1, 3} the last one alone is.
func TestTimesByHand(t *testing.T) {
	for _, x := range []struct {
		what       string
		legs       []int
		open, rain []api.Span
		from       int
		want       []api.Span
	}{
		{"always open", []int{0, 2}, spans(0, 1000000), nil, 0, spans(0, 60, 60, 90)},
		{"from later on", []int{0, 2}, spans(0, 1000000), nil, 7, spans(7, 67, 67, 97)},
		{"until the last minute", []int{0, 2}, spans(0, 1000000), nil, 999910, spans(999910, 999970, 999970, 1000000)},
		{"a minute too late", []int{0, 2}, spans(0, 1000000), nil, 999911, nil},
		{"from the end", []int{0, 2}, spans(0, 1000000), nil, 1000000, nil},
		{"never open", []int{0, 2}, nil, nil, 0, nil},
		{"just enough", []int{0, 2}, spans(5, 95), nil, 0, spans(5, 65, 65, 95)},
		{"one minute short", []int{0, 2}, spans(5, 94), nil, 0, nil},
		{"one minute short at first", []int{0, 2}, spans(5, 95), nil, 6, nil},
		{"closed between", []int{0, 2}, spans(5, 65, 100, 130), nil, 0, spans(5, 65, 100, 130)},
		{"parts of both", []int{0, 2}, spans(0, 59, 70, 90, 95, 200), nil, 0, spans(0, 71, 71, 106)},
		{"rain does not matter at first", []int{0, 2}, spans(0, 1000), spans(0, 60), 0, spans(0, 60, 60, 90)},
		{"rain for long", []int{0, 2}, spans(0, 1000), spans(0, 600), 0, spans(0, 60, 600, 630)},
		{"rain at all times", []int{0, 2}, spans(0, 1000), spans(0, 1000), 0, nil},
		{"rain longer than open", []int{0, 2}, spans(10, 90, 95, 200, 300, 400), spans(0, 5, 92, 301), 10, spans(10, 70, 70, 311)},
		{"rain from the end of an opening to the next one", []int{0, 2}, spans(10, 90, 95, 200), spans(90, 95), 10, spans(10, 70, 70, 105)},
		{"much rain in one opening", []int{0, 2}, spans(0, 1000), spans(61, 62, 63, 64, 70, 80, 89, 93, 100, 110), 0, spans(0, 60, 60, 116)},
		{"rain over two openings", []int{0, 2}, spans(0, 62, 66, 68, 70, 1000), spans(61, 67), 0, spans(0, 60, 60, 98)},
		{"a dry leg behind two", []int{0, 1, 3}, spans(0, 1000), spans(20, 95), 0, spans(0, 60, 60, 90, 95, 115)},
		{"the wet leg ahead of it is not dry", []int{4, 5, 3}, spans(0, 30, 40, 1000), spans(0, 1000), 0, nil},
		{"an opening that is over", []int{0, 2}, spans(0, 100, 200, 300), nil, 150, spans(200, 260, 260, 290)},
		{"from inside rain", []int{0, 2}, spans(0, 1000), spans(50, 100), 20, spans(20, 80, 100, 130)},
	} {
		b := api.Berth{Open: x.open, Rain: x.rain}
		p := planOf(x.legs...)
		l, e := plan.Times(exampleW(), p, b, x.from)
		if !slices.Equal(l, x.want) || (e == api.OK) != (x.want != nil) || e != api.OK && e != api.ErrLate {
			t.Errorf("%s: %v %d, want %v", x.what, l, e, x.want)
		}
		if want, ok := wantTimes(exampleW(), p, b, x.from, 1000000); !slices.Equal(want, x.want) || ok != (x.want != nil) {
			t.Errorf("%s: %v minute by minute", x.what, want)
		}
		if e := plan.CheckTimes(exampleW(), p, b, l); x.want != nil && e != api.OK {
			t.Errorf("%s: %v is refused: %d", x.what, l, e)
		}
	}
}

func TestBerthsThatAreNone(t *testing.T) {
	var many []api.Span
	for k := range api.MaxSpans {
		many = append(many, api.Span{From: 2 * k, To: 2*k + 1})
	}
	good := [][]api.Span{nil, spans(0, 1), spans(0, 1000000), spans(999999, 1000000), spans(0, 1, 2, 3), many}
	bad := [][]api.Span{
		spans(0, 0), spans(1, 1), spans(2, 1), spans(-1, 1), spans(-2, -1), spans(0, 1000001), spans(1000000, 1000000), spans(1000000, 1000001), spans(math.MinInt, 1), spans(0, math.MaxInt),
		spans(0, 1, 1, 2), spans(0, 2, 1, 3), spans(5, 6, 0, 1), spans(0, 1, 0, 1), spans(0, 1, 3, 3), spans(0, 1, 3, 1000001), spans(0, 1, 3, 5, 5, 6), spans(0, 9, 2, 3, 12, 14),
		append(slices.Clone(many), api.Span{From: 500, To: 501}),
	}
	w, p := exampleW(), exampleP()
	for _, l := range good {
		for _, b := range []api.Berth{{Open: l}, {Rain: l}, {Open: l, Rain: l}} {
			if e := plan.CheckBerth(b); e != api.OK {
				t.Error(b, e)
			}
		}
	}
	for _, l := range bad {
		for _, b := range []api.Berth{{Open: l}, {Rain: l}, {Open: l, Rain: spans(5, 6)}, {Open: spans(0, 1000), Rain: l}} {
			if e := plan.CheckBerth(b); e != api.ErrBerth {
				t.Error(b, e)
			}
			if l, e := plan.Times(w, p, b, 0); len(l) != 0 || e != api.ErrBerth {
				t.Error(b, l, e)
			}
			if e := plan.CheckTimes(w, p, b, spans(10, 70, 80, 210)); e != api.ErrBerth {
				t.Error(b, e)
			}
		}
	}
}

func TestStartsThatAreNone(t *testing.T) {
	for _, from := range []int{-1, 1000001, math.MaxInt, math.MinInt} {
		if l, e := plan.Times(exampleW(), exampleP(), exampleBerth(), from); len(l) != 0 || e != api.ErrArg {
			t.Error(from, l, e)
		}
	}
	for _, from := range []int{0, 1000000} {
		if _, e := plan.Times(exampleW(), exampleP(), exampleBerth(), from); e == api.ErrArg {
			t.Error(from)
		}
	}
}

func TestTimesThatAreChecked(t *testing.T) {
	check := func(want api.Errno, l ...int) {
		t.Helper()
		if e := plan.CheckTimes(exampleW(), exampleP(), exampleBerth(), spans(l...)); e != want {
			t.Errorf("%v: %d, want %d", l, e, want)
		}
	}
	check(api.OK, 10, 70, 80, 210)
	check(api.OK, 10, 70, 70, 210)
	check(api.OK, 0, 70, 75, 1000000)
	check(api.OK, 40, 100, 200, 230)
	check(api.OK, 41, 201, 201, 231)
	check(api.OK, 100, 260, 270, 300)
	check(api.OK, 0, 60, 60, 90+10)
	check(api.ErrArg)
	check(api.ErrArg, 10, 70)
	check(api.ErrArg, 10, 70, 80, 210, 210, 300)
	check(api.ErrArg, 70, 10)
	check(api.ErrLate, 10, 70, 80, 209)
	check(api.ErrLate, 10, 69, 80, 210)
	check(api.ErrLate, 10, 70, 69, 210)
	check(api.ErrLate, 200, 260, 10, 70)
	check(api.ErrLate, 10, 70, 70, 1000001)
	check(api.ErrLate, 10, 1000001, 1000001, 2000000)
	check(api.ErrLate, -1, 70, 70, 210)
	check(api.ErrLate, -60, 0, 70, 210)
	check(api.ErrLate, 10, 70, 70, 70)
	check(api.ErrLate, 10, 70, 210, 70)
	check(api.ErrLate, 70, 10, 80, 210)
	check(api.ErrLate, 270, 301, 301, 331)
	check(api.ErrLate, math.MinInt, math.MaxInt, math.MinInt, math.MaxInt)
	check(api.ErrLate, 0, 60, 60, 99)
}

// allSpans has all spans that end by a minute.
func allSpans(end int) []api.Span {
	var l []api.Span
	for from := range end {
		for to := from + 1; to <= end; to++ {
			l = append(l, api.Span{From: from, To: to})
		}
	}
	return l
}

// TestAllTimes is P5.5: all times of a small berth are tried.
func TestAllTimes(t *testing.T) {
	const end = 11
	accepted, refused := 0, 0
	trials(57, 500, func(r *rand.Rand, w api.Work) {
		plans := plansOf(w)
		if len(plans) == 0 {
			return
		}
		p := planOf(plans[r.Intn(len(plans))]...)
		if len(p.Legs) > 2 {
			return
		}
		b := api.Berth{Open: randomSpans(r, 3), Rain: randomSpans(r, 3)}
		from := r.Intn(4)
		best, e := plan.Times(w, p, b, from)
		var try func(l []api.Span)
		try = func(l []api.Span) {
			if len(l) < len(p.Legs) {
				for _, x := range allSpans(end) {
					try(append(l, x))
				}
				return
			}
			got := plan.CheckTimes(w, p, b, l)
			if wantServed(w, p, b, l) != (got == api.OK) || got != api.OK && got != api.ErrLate {
				t.Errorf("%v by %v at %v: %v: %d", w, p, b, l, got)
			}
			if got != api.OK {
				refused++
				return
			}
			accepted++
			if l[0].From < from {
				return
			}
			for i := range l {
				if e != api.OK || l[i].To < best[i].To {
					t.Errorf("%v by %v at %v from %d: %v is earlier than %v", w, p, b, from, l, best)
				}
			}
		}
		try(nil)
	})
	if accepted < 1000 || refused < 10000 {
		t.Error("too few cases:", accepted, refused)
	}
}

// TestTimesOfRandomBerths holds times against those that are found from minute to minute.
func TestTimesOfRandomBerths(t *testing.T) {
	done, late, waits := 0, 0, 0
	trials(58, 1500, func(r *rand.Rand, w api.Work) {
		for _, legs := range plansOf(w) {
			p, b, from := planOf(legs...), api.Berth{Open: randomSpans(r, 8), Rain: randomSpans(r, 8)}, r.Intn(6)
			want, ok := wantTimes(w, p, b, from, 100)
			l, e := plan.Times(w, p, b, from)
			if !slices.Equal(l, want) || ok != (e == api.OK) || !ok && e != api.ErrLate {
				t.Errorf("%v by %v at %v from %d: %v %d, want %v", w, p, b, from, l, e, want)
			}
			if !ok {
				late++
				continue
			}
			done++
			if e := plan.CheckTimes(w, p, b, l); e != api.OK {
				t.Errorf("%v by %v at %v: %v: %d", w, p, b, l, e)
			}
			for i, x := range l {
				if x.To-x.From > minutesOf(w, p.Legs[i]) {
					waits++
				}
			}
		}
	})
	if done < 500 || late < 500 || waits < 500 {
		t.Error("too few cases:", done, late, waits)
	}
}

// TestLongBerth has as many spans as may be, and as long a plan.
func TestLongBerth(t *testing.T) {
	w := greatestWork()
	p, e := plan.Nth(w, 0)
	if e != api.OK || len(p.Legs) != 8 {
		t.Fatal(p, e)
	}
	for j := range w.Jobs {
		w.Jobs[j].Dry = j%2 == 1
	}
	var b api.Berth
	for k := range api.MaxSpans {
		b.Open = append(b.Open, api.Span{From: 16000 * k, To: 16000*k + 4000})
		b.Rain = append(b.Rain, api.Span{From: 16000*k + 1000, To: 16000*k + 3000})
	}
	l, e := plan.Times(w, p, b, 0)
	want, ok := wantTimes(w, p, b, 0, api.MaxTime)
	if !slices.Equal(l, want) || !ok || e != api.OK || plan.CheckTimes(w, p, b, l) != api.OK {
		t.Error(l, want, e)
	}
}
