package plan_test

import (
	"math"
	"math/rand"
	"reflect"
	"slices"
	"strings"
	"testing"

	"ullage/api"
	"ullage/plan"
)

// request is what the functions are asked. (Its fields have great letters so that change can set them.)
type request struct {
	W          api.Work
	P          api.Plan
	Job, Nth   int
	Potentials []api.Potential
	Block      api.Block
	Berth      api.Berth
	From       int
	Times      []api.Span
	Beam       api.Beam
	Done       int
	Jobs       []api.Job
}

func exampleRequest() request {
	return request{
		W: exampleW(), P: exampleP(), Job: 1, Nth: 1, Potentials: exampleL(), Block: blockOf(1, 2, 0, 1, 2, 4),
		Berth: exampleBerth(), From: 10, Times: spans(10, 70, 80, 210),
		Beam: tripleBeam(), Done: 3, Jobs: []api.Job{{Minutes: 1}, {Spout: 1, Minutes: 1}},
	}
}

// call asks one function; what it returns beside the error is the first result.
type call struct {
	what string
	does string // what it takes: work, plan, berth, beam
	do   func(q request) (any, api.Errno)
}

// calls has all functions. (Those that need work without a plan get the example's with few legs.)
func calls() []call {
	few := func(w api.Work) api.Work {
		w.Legs = slices.DeleteFunc(slices.Clone(w.Legs), func(l api.Leg) bool { return l.From == 1 || l.From == 2 })
		return w
	}
	return []call{
		{"CheckWork", "work", func(q request) (any, api.Errno) { return nil, plan.CheckWork(q.W) }},
		{"CheckPlan", "work plan", func(q request) (any, api.Errno) { return nil, plan.CheckPlan(q.W, q.P) }},
		{"Cost", "work plan", func(q request) (any, api.Errno) { return both(plan.Cost(q.W, q.P)) }},
		{"Best", "work", func(q request) (any, api.Errno) { return both(plan.Best(q.W)) }},
		{"First", "work job", func(q request) (any, api.Errno) { return both(plan.First(q.W, q.Job)) }},
		{"Count", "work", func(q request) (any, api.Errno) { return both(plan.Count(q.W)) }},
		{"Nth", "work nth", func(q request) (any, api.Errno) { return both(plan.Nth(q.W, q.Nth)) }},
		{"Reach", "work", func(q request) (any, api.Errno) { return both(plan.Reach(q.W)) }},
		{"Potentials", "work", func(q request) (any, api.Errno) { return both(plan.Potentials(q.W)) }},
		{"CheckPotentials", "work potentials", func(q request) (any, api.Errno) { return both(plan.CheckPotentials(q.W, q.Potentials)) }},
		{"Blocked", "work", func(q request) (any, api.Errno) { return both(plan.Blocked(few(q.W))) }},
		{"CheckBlock", "work block", func(q request) (any, api.Errno) { return nil, plan.CheckBlock(few(q.W), q.Block) }},
		{"Without", "work job other", func(q request) (any, api.Errno) { return both(plan.Without(q.W, q.Job)) }},
		{"Spare", "work", func(q request) (any, api.Errno) { return both(plan.Spare(q.W)) }},
		{"CheckBerth", "berth", func(q request) (any, api.Errno) { return nil, plan.CheckBerth(q.Berth) }},
		{"Times", "work plan berth from", func(q request) (any, api.Errno) { return both(plan.Times(q.W, q.P, q.Berth, q.From)) }},
		{"CheckTimes", "work plan berth times", func(q request) (any, api.Errno) { return nil, plan.CheckTimes(q.W, q.P, q.Berth, q.Times) }},
		{"CheckBeam", "beam", func(q request) (any, api.Errno) { return nil, plan.CheckBeam(q.Beam) }},
		{"Shear", "beam done", func(q request) (any, api.Errno) { return both(plan.Shear(q.Beam, q.Done)) }},
		{"Bending", "beam done", func(q request) (any, api.Errno) { return both(plan.Bending(q.Beam, q.Done)) }},
		{"Keeps", "beam done", func(q request) (any, api.Errno) { return both(plan.Keeps(q.Beam, q.Done)) }},
		{"Legs", "beam jobs", func(q request) (any, api.Errno) { return both(plan.Legs(q.Beam, q.Jobs)) }},
	}
}

func both[T any](x T, e api.Errno) (any, api.Errno) { return x, e }

// isNothing reports whether a result is a zero value; empty lists count as such.
func isNothing(x any) bool {
	if x == nil {
		return true
	}
	v := reflect.ValueOf(x)
	if v.Kind() == reflect.Slice {
		return v.Len() == 0
	}
	return v.IsZero()
}

// defects has what can be wrong with a request, in the order in which it is told, by what a function takes.
func defects() []struct {
	takes string
	list  []defect[request]
} {
	return []struct {
		takes string
		list  []defect[request]
	}{
		{"work", []defect[request]{
			{"no jobs", func(q *request) { q.W.Jobs = nil }, api.ErrWork},
			{"a job", func(q *request) { q.W.Jobs[0].Cost = -1 }, api.ErrWork},
			{"a change", func(q *request) { q.W.Change = -1 }, api.ErrWork},
			{"a leg", func(q *request) { q.W.Legs[0].From = -1 }, api.ErrWork},
		}},
		{"plan", []defect[request]{
			{"no legs", func(q *request) { q.P = api.Plan{} }, api.ErrPlan},
			{"a leg of a plan", func(q *request) { q.P.Legs = []int{0, 6} }, api.ErrPlan},
		}},
		{"berth", []defect[request]{
			{"open hours", func(q *request) { q.Berth.Open = spans(5, 5) }, api.ErrBerth},
			{"rain", func(q *request) { q.Berth.Rain = spans(5, 6, 6, 7) }, api.ErrBerth},
		}},
		{"from", []defect[request]{
			{"a minute below 0", func(q *request) { q.From = -1 }, api.ErrArg},
			{"a late minute", func(q *request) { q.From = api.MaxTime + 1 }, api.ErrArg},
			{"too late", func(q *request) { q.Berth.Open = spans(0, 90) }, api.ErrLate},
		}},
		{"times", []defect[request]{
			{"few spans", func(q *request) { q.Times = q.Times[:1] }, api.ErrArg},
			{"no minutes", func(q *request) { q.Times[0].To = 10 }, api.ErrLate},
			{"an early span", func(q *request) { q.Times[1].From = 69 }, api.ErrLate},
			{"a short span", func(q *request) { q.Times[1].To = 209 }, api.ErrLate},
		}},
		{"job", []defect[request]{
			{"a job below 0", func(q *request) { q.Job = -1 }, api.ErrArg},
			{"a job behind the last one", func(q *request) { q.Job = 3 }, api.ErrArg},
		}},
		{"other", []defect[request]{
			{"a job alone", func(q *request) {
				q.W.Jobs, q.W.Legs = q.W.Jobs[:min(1, len(q.W.Jobs))], legs(0, 1)
				q.Job = 0
			}, api.ErrNone},
		}},
		{"nth", []defect[request]{
			{"no such plan", func(q *request) { q.Nth = 3 }, api.ErrNone},
		}},
		{"potentials", []defect[request]{
			{"no potentials", func(q *request) { q.Potentials = nil }, api.ErrBound},
		}},
		{"block", []defect[request]{
			{"no block", func(q *request) { q.Block = api.Block{} }, api.ErrBlock},
		}},
		{"beam", []defect[request]{
			{"no sections", func(q *request) { q.Beam.Sections = nil }, api.ErrBeam},
			{"a load", func(q *request) { q.Beam.Loads[1][0] = span(2, 1) }, api.ErrBeam},
			{"a limit", func(q *request) { q.Beam.Bending = nil }, api.ErrBeam},
		}},
		{"done", []defect[request]{
			{"a mask below 0", func(q *request) { q.Done = -1 }, api.ErrArg},
			{"a mask of other jobs", func(q *request) { q.Done = 4 }, api.ErrArg},
		}},
		{"jobs", []defect[request]{
			{"few jobs", func(q *request) { q.Jobs = q.Jobs[:1] }, api.ErrWork},
			{"a job of the beam", func(q *request) { q.Jobs[0].Minutes = 0 }, api.ErrWork},
		}},
	}
}

// takes reports whether a function takes something.
func (f call) takes(what string) bool { return slices.Contains(strings.Fields(f.does), what) }

// TestErrors is the order of errors of all functions, with zero values beside each.
func TestErrors(t *testing.T) {
	for _, f := range calls() {
		var l []defect[request]
		for _, d := range defects() {
			if f.takes(d.takes) {
				l = append(l, d.list...)
			}
		}
		expectDefects(t, exampleRequest, func(q request) api.Errno {
			x, e := f.do(q)
			if e != api.OK && !isNothing(x) {
				t.Errorf("%s: %v with the error %d", f.what, x, e)
			}
			return e
		}, l)
	}
}

// TestArgumentsAreKept is R4: no argument is changed, and what is returned is new.
func TestArgumentsAreKept(t *testing.T) {
	for _, f := range calls() {
		q := exampleRequest()
		want, e := f.do(exampleRequest())
		x, _ := f.do(q)
		if e != api.OK || !reflect.DeepEqual(q, exampleRequest()) {
			t.Errorf("%s has changed its arguments: %v %d", f.what, q, e)
		}
		if x == nil {
			continue
		}
		// What changes a result changes neither the arguments nor what is told later.
		spoilLists(reflect.ValueOf(x))
		again, _ := f.do(q)
		if !reflect.DeepEqual(q, exampleRequest()) || !reflect.DeepEqual(again, want) {
			t.Errorf("%s: %v, at first %v", f.what, again, want)
		}
	}
}

// spoilLists changes all elements of lists.
func spoilLists(v reflect.Value) {
	switch v.Kind() {
	case reflect.Slice:
		for i := range v.Len() {
			v.Index(i).SetZero()
		}
	case reflect.Struct:
		for i := range v.NumField() {
			spoilLists(v.Field(i))
		}
	}
}

// TestRoomBehindLists: what lies in memory behind the lists that are handed in is kept too.
func TestRoomBehindLists(t *testing.T) {
	w := exampleW()
	jobs := slices.Clone(w.Jobs)
	all := slices.Clone(w.Legs)
	w.Jobs, w.Legs = w.Jobs[:2], w.Legs[:2]
	for job := range 2 {
		if u, e := plan.Without(w, job); len(u.Jobs) != 1 || e != api.OK {
			t.Error(u, e)
		}
	}
	if !slices.Equal(w.Jobs[:3], jobs) || !slices.Equal(w.Legs[:6], all) {
		t.Error(w.Jobs[:3], w.Legs[:6])
	}
}

// TestNilAndEmpty is R3.
func TestNilAndEmpty(t *testing.T) {
	w := withLegs(exampleW())
	w.Legs = []api.Leg{}
	if e := plan.CheckWork(w); e != api.OK {
		t.Error(e)
	}
	if e := plan.CheckBerth(api.Berth{Open: []api.Span{}}); e != api.OK {
		t.Error(e)
	}
	for _, l := range [][]api.Potential{nil, {}} {
		if _, e := plan.CheckPotentials(w, l); e != api.ErrBound {
			t.Error(e)
		}
	}
	for _, l := range [][]int{nil, {}} {
		if e := plan.CheckBlock(w, api.Block{To: 1, Closed: l}); e != api.ErrBlock {
			t.Error(e)
		}
		if e := plan.CheckPlan(w, api.Plan{Legs: l}); e != api.ErrPlan {
			t.Error(e)
		}
	}
}

// oddNumber is one at a limit, or far from all.
func oddNumber(r *rand.Rand) int {
	l := []int{0, 1, 2, 3, 4, 7, 8, 15, 16, 63, 64, 255, 256, 1000, 10000, 100000, 1000000, 1000000000, 1000000000000, 1 << 62, math.MaxInt, math.MinInt, -1, -2, -63, -64}
	return l[r.Intn(len(l))] + r.Intn(3)*r.Intn(2) - r.Intn(2)
}

// change makes a value another one, at random places: numbers, lists, or parts of them.
func change(r *rand.Rand, v reflect.Value) {
	switch v.Kind() {
	case reflect.Int:
		v.SetInt(int64(oddNumber(r)))
	case reflect.Bool:
		v.SetBool(!v.Bool())
	case reflect.Struct:
		change(r, v.Field(r.Intn(v.NumField())))
	case reflect.Slice:
		n := v.Len()
		switch {
		case n == 0 || r.Intn(8) == 0:
			v.Set(reflect.Append(v.Slice(0, n), reflect.New(v.Type().Elem()).Elem()))
		case r.Intn(6) == 0:
			v.Set(reflect.AppendSlice(v.Slice(0, n/2), v.Slice((n+1)/2, n)))
		case r.Intn(10) == 0:
			v.Set(reflect.AppendSlice(v.Slice(0, n), v.Slice(0, n)))
		default:
			change(r, v.Index(r.Intn(n)))
		}
	}
}

// TestAnyArguments is P1: no function panics, and beside an error are zero values.
func TestAnyArguments(t *testing.T) {
	r := rand.New(rand.NewSource(62))
	failed := map[string]int{}
	for range 30000 {
		q := exampleRequest()
		for range 1 + r.Intn(4) {
			change(r, reflect.ValueOf(&q).Elem())
		}
		f := calls()[r.Intn(len(calls()))]
		x, e := f.do(q)
		if e != api.OK {
			failed[f.what]++
			if !isNothing(x) {
				t.Errorf("%s of %v: %v with the error %d", f.what, q, x, e)
			}
		}
	}
	for _, f := range calls() {
		if x, e := f.do(request{}); e == api.OK != (f.what == "CheckBerth") || !isNothing(x) {
			t.Errorf("%s of nothing: %v %d", f.what, x, e)
		}
		if failed[f.what] < 50 {
			t.Error("too few cases:", f.what, failed[f.what])
		}
	}
}

// TestSameAgain: what is told does not rest on the order of a map.
func TestSameAgain(t *testing.T) {
	for range 20 {
		for _, f := range calls() {
			a, _ := f.do(exampleRequest())
			b, _ := f.do(exampleRequest())
			if !reflect.DeepEqual(a, b) {
				t.Errorf("%s: %v, then %v", f.what, a, b)
			}
		}
	}
}
