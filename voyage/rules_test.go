package voyage_test

import (
	"math"
	"math/rand"
	"reflect"
	"slices"
	"strings"
	"testing"

	"ullage/api"
	"ullage/voyage"
)

// request is what the functions are asked. (Its fields have great letters so that change can set them.)
type request struct {
	Passages                       []api.Passage
	Mass                           api.Range
	Reserve, Hour                  int
	Masses                         []api.Range
	Steps                          []api.Step
	Arms                           []int
	Limit                          int
	Clocks                         []api.Clock
	Holds                          []int
	Hold, Minute, Until            int
	Forecasts                      []api.Forecast
	Known, At, From, To, Most, Dry int
	Legs                           []api.Leg
	Jobs                           int
	Told, Plan                     []int
}

func exampleRequest() request {
	return request{
		Passages: exampleL(), Mass: span(70, 75), Reserve: 5, Hour: 2,
		Masses: exampleM(), Steps: emptied(), Arms: []int{3, -1}, Limit: 20,
		Clocks: exampleC(), Holds: []int{0, 1}, Hold: 1, Minute: 100, Until: 140,
		Forecasts: exampleF(), Known: 3, At: 7, From: 5, To: 9, Most: 8, Dry: 2,
		Legs: exampleLegs(), Jobs: 2, Told: []int{1, 2}, Plan: []int{2, 1},
	}
}

// results are those of a function, beside its error.
type results []any

// call asks one function.
type call struct {
	what  string
	takes string // in the order of the errors
	do    func(q request) (results, api.Errno)
}

func none(e api.Errno) (results, api.Errno)                     { return nil, e }
func single[T any](x T, e api.Errno) (results, api.Errno)       { return results{x}, e }
func pair[T, U any](x T, y U, e api.Errno) (results, api.Errno) { return results{x, y}, e }

func calls() []call {
	return []call{
		{"Check", "passages", func(q request) (results, api.Errno) { return none(voyage.Check(q.Passages)) }},
		{"Hours", "passages", func(q request) (results, api.Errno) { return single(voyage.Hours(q.Passages)) }},
		{"Burnt", "passages", func(q request) (results, api.Errno) { return single(voyage.Burnt(q.Passages)) }},
		{"Left", "passages mass", func(q request) (results, api.Errno) { return single(voyage.Left(q.Mass, q.Passages)) }},
		{"Enough", "passages mass reserve", func(q request) (results, api.Errno) { return single(voyage.Enough(q.Mass, q.Passages, q.Reserve)) }},
		{"Need", "passages reserve", func(q request) (results, api.Errno) { return single(voyage.Need(q.Passages, q.Reserve)) }},
		{"Where", "passages hour", func(q request) (results, api.Errno) { return single(voyage.Where(q.Passages, q.Hour)) }},
		{"CheckSteps", "masses steps", func(q request) (results, api.Errno) { return none(voyage.CheckSteps(q.Masses, q.Steps)) }},
		{"After", "masses steps", func(q request) (results, api.Errno) { return single(voyage.After(q.Masses, q.Steps)) }},
		{"During", "masses steps", func(q request) (results, api.Errno) { return single(voyage.During(q.Masses, q.Steps)) }},
		{"Moment", "masses arms", func(q request) (results, api.Errno) { return single(voyage.Moment(q.Masses, q.Arms)) }},
		{"Tilts", "masses steps arms limit", func(q request) (results, api.Errno) {
			return single(voyage.Tilts(q.Masses, q.Steps, q.Arms, q.Limit))
		}},
		{"Order", "masses steps arms limit eight order", func(q request) (results, api.Errno) {
			return single(voyage.Order(q.Masses, q.Steps, q.Arms, q.Limit))
		}},
		{"CheckClocks", "clocks", func(q request) (results, api.Errno) { return none(voyage.CheckClocks(q.Clocks)) }},
		{"Closed", "clocks hold minute", func(q request) (results, api.Errno) { return single(voyage.Closed(q.Clocks, q.Hold, q.Minute)) }},
		{"Open", "clocks holds minute", func(q request) (results, api.Errno) { return single(voyage.Open(q.Clocks, q.Holds, q.Minute)) }},
		{"Free", "clocks hold minute until", func(q request) (results, api.Errno) {
			return single(voyage.Free(q.Clocks, q.Hold, q.Minute, q.Until))
		}},
		{"CheckForecasts", "forecasts", func(q request) (results, api.Errno) { return none(voyage.CheckForecasts(q.Forecasts)) }},
		{"Known", "forecasts known at", func(q request) (results, api.Errno) { return single(voyage.Known(q.Forecasts, q.Known, q.At)) }},
		{"Calm", "forecasts known hours", func(q request) (results, api.Errno) {
			return single(voyage.Calm(q.Forecasts, q.Known, q.From, q.To, q.Most))
		}},
		{"Dry", "forecasts known hours dry", func(q request) (results, api.Errno) {
			return single(voyage.Dry(q.Forecasts, q.Known, q.From, q.To, q.Most, q.Dry))
		}},
		{"CheckChain", "legs plan allowed", func(q request) (results, api.Errno) { return none(voyage.CheckChain(q.Legs, q.Jobs, q.Plan)) }},
		{"Moved", "told plan", func(q request) (results, api.Errno) { return single(voyage.Moved(q.Told, q.Plan)) }},
		{"Change", "legs told way", func(q request) (results, api.Errno) { return pair(voyage.Change(q.Legs, q.Jobs, q.Told)) }},
		{"CheckChange", "legs told plan allowed", func(q request) (results, api.Errno) {
			return none(voyage.CheckChange(q.Legs, q.Jobs, q.Told, q.Plan))
		}},
	}
}

// areNothing reports whether results are zero values; empty lists count as such.
func areNothing(l results) bool {
	return !slices.ContainsFunc(l, func(x any) bool {
		v := reflect.ValueOf(x)
		return !v.IsZero() && (v.Kind() != reflect.Slice || v.Len() > 0)
	})
}

// defect is what makes a request invalid.
type defect struct {
	what string
	do   func(q *request)
	e    api.Errno
}

// defects has what can be wrong with a request, by what a function takes, each list in the order in which it is told.
func defects() map[string][]defect {
	return map[string][]defect{
		"passages": {
			{"many passages", func(q *request) { q.Passages = append(longest(), q.Passages...) }, api.ErrLong},
			{"a passage", func(q *request) { q.Passages[1].Hours.Lo = 6 }, api.ErrPassage},
		},
		"mass":    {{"a mass", func(q *request) { q.Mass.Lo = 76 }, api.ErrLevels}},
		"reserve": {{"a reserve", func(q *request) { q.Reserve = -1 }, api.ErrArg}},
		"hour": {
			{"an hour below 0", func(q *request) { q.Hour = -1 }, api.ErrArg},
			{"an hour behind all", func(q *request) { q.Hour = 8 }, api.ErrNone},
		},
		"masses": {
			{"many masses", func(q *request) { q.Masses = append(fullest(), q.Masses...) }, api.ErrLong},
			{"a mass of a tank", func(q *request) { q.Masses[1].Lo = 21 }, api.ErrLevels},
		},
		"steps": {
			{"many steps", func(q *request) { q.Steps = slices.Repeat(q.Steps, 9) }, api.ErrLong},
			{"a step", func(q *request) { q.Steps[1].To.Lo = -1 }, api.ErrStep},
		},
		"arms":  {{"few arms", func(q *request) { q.Arms = q.Arms[:1] }, api.ErrArg}, {"a long arm", func(q *request) { q.Arms[0] = -api.MaxArm - 1 }, api.ErrArg}},
		"limit": {{"a limit", func(q *request) { q.Limit = -1 }, api.ErrArg}},
		"eight": {{"eight steps", func(q *request) { q.Steps = slices.Repeat(q.Steps, 4) }, api.ErrLong}},
		"order": {{"no order", func(q *request) { q.Limit = min(q.Limit, 10) }, api.ErrNone}},
		"clocks": {
			{"many clocks", func(q *request) { q.Clocks = append(latest(), q.Clocks...) }, api.ErrLong},
			{"a clock", func(q *request) { q.Clocks[0].For.Lo = 31 }, api.ErrClock},
		},
		"hold":   {{"a hold", func(q *request) { q.Hold = 9 }, api.ErrArg}},
		"holds":  {{"one of the holds", func(q *request) { q.Holds[1] = -1 }, api.ErrArg}},
		"minute": {{"a minute", func(q *request) { q.Minute = -1 }, api.ErrArg}},
		"until":  {{"a run", func(q *request) { q.Until = 99 }, api.ErrArg}, {"a last minute", func(q *request) { q.Until = 2000001 }, api.ErrArg}},
		"forecasts": {
			{"many forecasts", func(q *request) { q.Forecasts = append(vaguest(), q.Forecasts...) }, api.ErrLong},
			{"a forecast", func(q *request) { q.Forecasts[1].To = 6 }, api.ErrForecast},
		},
		"known": {{"an hour of knowing", func(q *request) { q.Known = -1 }, api.ErrArg}},
		"at": {
			{"an hour asked for", func(q *request) { q.At = -1 }, api.ErrArg},
			{"an hour of which nothing is told", func(q *request) { q.At = 4 }, api.ErrNone},
			{"forecasts against each other", func(q *request) { q.Forecasts = append(q.Forecasts, forecast(0, 5, 9, 9, 9)) }, api.ErrForecast},
		},
		"hours": {{"hours", func(q *request) { q.From = 10 }, api.ErrArg}},
		"dry": {
			{"no hours", func(q *request) { q.Dry = 0 }, api.ErrArg},
			{"many hours", func(q *request) { q.Dry = 6 }, api.ErrNone},
		},
		"legs": {
			{"no jobs", func(q *request) { q.Jobs = 0 }, api.ErrArg},
			{"many legs", func(q *request) { q.Legs = slices.Repeat(q.Legs, api.MaxLegs+1) }, api.ErrLong},
			{"a leg", func(q *request) { q.Legs[len(q.Legs)-1].Add = 4 }, api.ErrArg},
		},
		"told":    {{"no plan told", func(q *request) { q.Told = []int{2} }, api.ErrPlan}},
		"plan":    {{"no plan", func(q *request) { q.Plan = []int{1, 3} }, api.ErrPlan}},
		"allowed": {{"a plan that is not allowed", func(q *request) { q.Legs = q.Legs[1:] }, api.ErrMoved}},
		"way":     {{"no way", func(q *request) { q.Legs = q.Legs[:1] }, api.ErrNone}},
	}
}

// TestErrors is the order of errors of all functions, with zero values beside each: of two defects, the one that is named first decides.
func TestErrors(t *testing.T) {
	for _, f := range calls() {
		var l []defect
		for _, what := range strings.Fields(f.takes) {
			l = append(l, defects()[what]...)
		}
		expect := func(e api.Errno, list ...defect) {
			q := exampleRequest()
			for _, d := range list {
				d.do(&q)
			}
			x, got := f.do(q)
			if got != e {
				t.Errorf("%s with %v: %d, want %d", f.what, list, got, e)
			}
			if got != api.OK && !areNothing(x) {
				t.Errorf("%s: %v with the error %d", f.what, x, got)
			}
		}
		expect(api.OK)
		for i, d := range l {
			expect(d.e, d)
			for _, later := range l[i+1:] {
				expect(d.e, later, d)
			}
		}
	}
}

// block is the memory of a list.
type block struct{ from, to uintptr }

// blocks are those of all lists of a value.
func blocks(v reflect.Value) []block {
	var l []block
	switch v.Kind() {
	case reflect.Slice:
		if v.Cap() > 0 {
			l = append(l, block{v.Pointer(), v.Pointer() + uintptr(v.Cap())*v.Type().Elem().Size()})
		}
		for i := range v.Len() {
			l = append(l, blocks(v.Index(i))...)
		}
	case reflect.Struct:
		for i := range v.NumField() {
			l = append(l, blocks(v.Field(i))...)
		}
	}
	return l
}

// shares reports whether any two of these blocks share memory.
func shares(l []block) bool {
	for i, a := range l {
		for _, b := range l[i+1:] {
			if a.from < b.to && b.from < a.to {
				return true
			}
		}
	}
	return false
}

// spoil makes all elements of lists others.
func spoil(v reflect.Value) {
	if v.Kind() == reflect.Slice {
		for i := range v.Len() {
			spoil(v.Index(i))
			v.Index(i).SetZero()
		}
	}
}

// TestMemory is R4: no argument is changed, and no result shares memory with one, or with another one.
func TestMemory(t *testing.T) {
	for _, f := range calls() {
		q := exampleRequest()
		want, _ := f.do(exampleRequest())
		x, e := f.do(q)
		if e != api.OK || !reflect.DeepEqual(q, exampleRequest()) || !reflect.DeepEqual(x, want) {
			t.Errorf("%s has changed its arguments: %v", f.what, q)
		}
		all := blocks(reflect.ValueOf(q))
		for _, y := range x {
			all = append(all, blocks(reflect.ValueOf(y))...)
		}
		if shares(all) {
			t.Errorf("%s: %v shares memory", f.what, x)
		}
		for _, y := range x {
			spoil(reflect.ValueOf(y))
		}
		if again, _ := f.do(q); !reflect.DeepEqual(q, exampleRequest()) || !reflect.DeepEqual(again, want) {
			t.Errorf("%s: %v, at first %v", f.what, again, want)
		}
	}
}

// TestNothing: what the functions tell of nothing, be its lists nil or empty (R3).
func TestNothing(t *testing.T) {
	want := map[string]api.Errno{"Where": api.ErrNone, "Known": api.ErrNone, "Dry": api.ErrArg, "CheckChain": api.ErrArg, "Moved": api.ErrPlan, "Change": api.ErrArg, "CheckChange": api.ErrArg}
	values := map[string]any{"Enough": api.Yes, "Tilts": -1, "Free": ranges(one(0)), "Calm": api.Maybe}
	var empty request
	v := reflect.ValueOf(&empty).Elem()
	for i := range v.NumField() {
		if v.Field(i).Kind() == reflect.Slice {
			v.Field(i).Set(reflect.MakeSlice(v.Field(i).Type(), 0, 0))
		}
	}
	for _, q := range []request{{}, empty} {
		for _, f := range calls() {
			x, e := f.do(q)
			if e != want[f.what] {
				t.Errorf("%s of nothing: %d, want %d", f.what, e, want[f.what])
			}
			value, ok := values[f.what]
			if ok && !reflect.DeepEqual(x, results{value}) || !ok && !areNothing(x) {
				t.Errorf("%s of nothing: %v", f.what, x)
			}
		}
	}
}

// oddNumber is one at a limit, or far from all.
func oddNumber(r *rand.Rand) int {
	l := []int{0, 1, 2, 3, 4, 5, 6, 7, 8, 9, 10, 16, 20, 40, 100, 255, 256, 3000, 10000, 100000, 1000000, 2000000, 100000000, 1000000000, 1000000000000000, 1 << 31, 1 << 32, 1 << 62, math.MaxInt, math.MinInt, -1, -2, -1000000}
	return l[r.Intn(len(l))] + r.Intn(3)*r.Intn(2) - r.Intn(2)
}

// change makes a value another one, at random places: numbers, lists, or parts of them.
func change(r *rand.Rand, v reflect.Value) {
	switch v.Kind() {
	case reflect.Int:
		v.SetInt(int64(oddNumber(r)))
	case reflect.Struct:
		change(r, v.Field(r.Intn(v.NumField())))
	case reflect.Slice:
		n := v.Len()
		switch {
		case n == 0 || r.Intn(8) == 0:
			v.Set(reflect.Append(v.Slice(0, n), reflect.New(v.Type().Elem()).Elem()))
		case r.Intn(6) == 0:
			v.Set(reflect.AppendSlice(v.Slice(0, n/2), v.Slice((n+1)/2, n)))
		case r.Intn(10) == 0:
			v.Set(reflect.AppendSlice(v.Slice(0, n), v.Slice(0, n)))
		default:
			change(r, v.Index(r.Intn(n)))
		}
	}
}

// TestAnyArguments is P1: no function panics, and beside an error are zero values.
func TestAnyArguments(t *testing.T) {
	r := rand.New(rand.NewSource(79))
	failed := map[string]int{}
	for range 60000 {
		q := exampleRequest()
		for range 1 + r.Intn(12) {
			change(r, reflect.ValueOf(&q).Elem())
		}
		f := calls()[r.Intn(len(calls()))]
		x, e := f.do(q)
		if e != api.OK {
			failed[f.what]++
			if !areNothing(x) {
				t.Errorf("%s of %v: %v with the error %d", f.what, q, x, e)
			}
		}
	}
	for _, f := range calls() {
		if failed[f.what] < 100 {
			t.Error("too few cases:", f.what, failed[f.what])
		}
	}
}

// TestGreatArguments: what takes longest, at the limits.
func TestGreatArguments(t *testing.T) {
	r := rand.New(rand.NewSource(80))
	l := someLegs(r, 8, 100)
	if len(l) != api.MaxLegs {
		t.Error(len(l))
	}
	told := []int{1, 2, 4, 8, 16, 32, 64, 128}
	p, _, e := voyage.Change(l, 8, told)
	expectChain(t, l, 8, p, e)
	expectCheckChange(t, l, 8, told, p, api.OK)
	// Legs that nearly lead to the end, by all ways.
	blocked := slices.DeleteFunc(allLegs(8), func(l api.Leg) bool { return l.From+l.Add == 255 || jobsIn(l.Add) > 2 })
	expectChange(t, blocked, 8, told, nil, 0, api.ErrNone)
	// All steps but one keep the limit in any order.
	steps := append(slices.Repeat([]api.Step{step(0, 0, 9), step(1, 0, 9), step(2, 0, 9)}, 2), step(3, 0, api.MaxLevel))
	expectOrder(t, ranges(one(0), one(0), one(0), one(0)), steps, []int{1, 1, 1, 1}, 99, nil, api.ErrNone)
	expectMoved(t, told, slices.Repeat([]int{1}, 1000000), 0, api.ErrPlan)
}
