package voyage_test

import (
	"math"
	"math/rand"
	"slices"
	"testing"

	"ullage/api"
	"ullage/voyage"
)

// longest are the greatest passages that there may be.
func longest() []api.Passage {
	return slices.Repeat([]api.Passage{passage(api.MaxHours, api.MaxHours, api.MaxBurn, api.MaxBurn)}, api.MaxPassages)
}

func TestCheck(t *testing.T) {
	for _, x := range []struct {
		l []api.Passage
		e api.Errno
	}{
		{nil, api.OK},
		{[]api.Passage{{}}, api.OK},
		{exampleL(), api.OK},
		{longest(), api.OK},
		{append(longest(), passage(0, 0, 0, 0)), api.ErrLong},
		{append(longest(), passage(-1, 0, 0, 0)), api.ErrLong},
		{[]api.Passage{passage(0, api.MaxHours, 0, api.MaxBurn)}, api.OK},
		{[]api.Passage{passage(-1, 3, 0, 0)}, api.ErrPassage},
		{[]api.Passage{passage(4, 3, 0, 0)}, api.ErrPassage},
		{[]api.Passage{passage(0, api.MaxHours+1, 0, 0)}, api.ErrPassage},
		{[]api.Passage{passage(0, 0, -1, 0)}, api.ErrPassage},
		{[]api.Passage{passage(0, 0, 1, 0)}, api.ErrPassage},
		{[]api.Passage{passage(0, 0, 0, api.MaxBurn+1)}, api.ErrPassage},
		{[]api.Passage{passage(0, 0, 0, 0), passage(0, math.MaxInt, 0, 0)}, api.ErrPassage},
		{[]api.Passage{passage(math.MinInt, 0, 0, 0)}, api.ErrPassage},
	} {
		if e := voyage.Check(x.l); e != x.e {
			t.Errorf("Check of %v: %d, want %d", x.l, e, x.e)
		}
		if r, e := voyage.Hours(x.l); e != x.e || e != api.OK && r != (api.Range{}) {
			t.Errorf("Hours of %v: %v %d, want %d", x.l, r, e, x.e)
		}
	}
}

func expectSums(t *testing.T, l []api.Passage, hours, burnt api.Range) {
	t.Helper()
	if r, e := voyage.Hours(l); r != hours || e != api.OK {
		t.Errorf("Hours of %v: %v %d, want %v", l, r, e, hours)
	}
	if r, e := voyage.Burnt(l); r != burnt || e != api.OK {
		t.Errorf("Burnt of %v: %v %d, want %v", l, r, e, burnt)
	}
}

func TestHoursAndBurnt(t *testing.T) {
	expectSums(t, exampleL(), span(7, 8), span(60, 81))
	expectSums(t, nil, one(0), one(0))
	expectSums(t, []api.Passage{passage(2, 3, 10, 12)}, span(2, 3), span(20, 36))
	expectSums(t, []api.Passage{passage(0, 3, 10, 12)}, span(0, 3), span(0, 36))
	expectSums(t, []api.Passage{passage(2, 3, 0, 12), passage(0, 0, 5, 7)}, span(2, 3), span(0, 36))
	expectSums(t, longest(), one(200000), one(20000000000))
}

func expectLeft(t *testing.T, mass api.Range, l []api.Passage, want []api.Range, e api.Errno) {
	t.Helper()
	if got, f := voyage.Left(mass, l); !slices.Equal(got, want) || f != e {
		t.Errorf("Left of %v and %v: %v %d, want %v %d", mass, l, got, f, want, e)
	}
}

func TestLeft(t *testing.T) {
	l := exampleL()
	expectLeft(t, span(70, 75), l, ranges(span(34, 55), span(0, 15)), api.OK)
	expectLeft(t, span(70, 75), nil, nil, api.OK)
	expectLeft(t, one(0), l, ranges(one(0), one(0)), api.OK)
	// What is missing behind one passage is not missing twice.
	expectLeft(t, span(30, 100), l, ranges(span(0, 80), span(0, 40)), api.OK)
	expectLeft(t, one(10*api.MaxLevel), l, ranges(span(999999964, 999999980), span(999999919, 999999940)), api.OK)
	expectLeft(t, one(10*api.MaxLevel), longest(), slices.Repeat(ranges(one(0)), 20), api.OK)
	expectLeft(t, span(0, 10*api.MaxLevel+1), l, nil, api.ErrLevels)
	expectLeft(t, span(-1, 5), l, nil, api.ErrLevels)
	expectLeft(t, span(6, 5), l, nil, api.ErrLevels)
	expectLeft(t, span(math.MinInt, math.MaxInt), l, nil, api.ErrLevels)
	expectLeft(t, span(6, 5), append(l, passage(1, 0, 0, 0)), nil, api.ErrPassage)
}

func expectEnough(t *testing.T, mass api.Range, l []api.Passage, reserve, want int, e api.Errno) {
	t.Helper()
	if got, f := voyage.Enough(mass, l, reserve); got != want || f != e {
		t.Errorf("Enough of %v, %v and %d: %d %d, want %d %d", mass, l, reserve, got, f, want, e)
	}
}

func TestEnough(t *testing.T) {
	l := exampleL()
	expectEnough(t, span(70, 75), l, 0, api.Maybe, api.OK)
	expectEnough(t, span(81, 90), l, 0, api.Yes, api.OK)
	expectEnough(t, span(80, 90), l, 0, api.Maybe, api.OK)
	expectEnough(t, span(50, 60), l, 0, api.Maybe, api.OK)
	expectEnough(t, span(50, 59), l, 0, api.No, api.OK)
	expectEnough(t, span(86, 90), l, 5, api.Yes, api.OK)
	expectEnough(t, span(86, 90), l, 6, api.Maybe, api.OK)
	expectEnough(t, span(0, 65), l, 5, api.Maybe, api.OK)
	expectEnough(t, span(0, 65), l, 6, api.No, api.OK)
	expectEnough(t, one(0), nil, 0, api.Yes, api.OK)
	expectEnough(t, one(0), nil, 1, api.No, api.OK)
	expectEnough(t, one(10*api.MaxLevel), longest(), api.MaxLevel, api.No, api.OK)
	expectEnough(t, one(10*api.MaxLevel), nil, api.MaxLevel, api.Yes, api.OK)
	expectEnough(t, one(10*api.MaxLevel+1), l, 0, 0, api.ErrLevels)
	expectEnough(t, span(2, 1), l, -1, 0, api.ErrLevels)
	expectEnough(t, one(1), l, -1, 0, api.ErrArg)
	expectEnough(t, one(1), l, api.MaxLevel+1, 0, api.ErrArg)
	expectEnough(t, span(2, 1), append(longest(), l...), -1, 0, api.ErrLong)
}

func expectNeed(t *testing.T, l []api.Passage, reserve, want int, e api.Errno) {
	t.Helper()
	if got, f := voyage.Need(l, reserve); got != want || f != e {
		t.Errorf("Need of %v and %d: %d %d, want %d %d", l, reserve, got, f, want, e)
	}
}

func TestNeed(t *testing.T) {
	expectNeed(t, exampleL(), 5, 86, api.OK)
	expectNeed(t, exampleL(), 0, 81, api.OK)
	expectNeed(t, nil, 0, 0, api.OK)
	expectNeed(t, nil, api.MaxLevel, api.MaxLevel, api.OK)
	// More than the mass that Enough may be asked of is told, too.
	expectNeed(t, longest(), api.MaxLevel, 20100000000, api.OK)
	expectNeed(t, exampleL(), -1, 0, api.ErrArg)
	expectNeed(t, exampleL(), api.MaxLevel+1, 0, api.ErrArg)
	expectNeed(t, []api.Passage{passage(0, 0, 1, 0)}, -1, 0, api.ErrPassage)
}

func expectWhere(t *testing.T, l []api.Passage, hour int, want api.Range, e api.Errno) {
	t.Helper()
	if got, f := voyage.Where(l, hour); got != want || f != e {
		t.Errorf("Where of %v and %d: %v %d, want %v %d", l, hour, got, f, want, e)
	}
}

func TestWhere(t *testing.T) {
	l := exampleL()
	for hour, want := range ranges(one(0), one(0), span(0, 1), one(1), one(1), one(1), one(1), one(1)) {
		expectWhere(t, l, hour, want, api.OK)
	}
	expectWhere(t, l, 8, api.Range{}, api.ErrNone)
	expectWhere(t, nil, 0, api.Range{}, api.ErrNone)
	// A passage of no hours is nowhere, also between two others.
	still := []api.Passage{passage(0, 0, 1, 1), passage(0, 2, 1, 1), passage(0, 0, 1, 1), passage(1, 1, 1, 1), passage(0, 0, 1, 1)}
	expectWhere(t, still, 0, span(1, 3), api.OK)
	expectWhere(t, still, 1, span(1, 3), api.OK)
	expectWhere(t, still, 2, one(3), api.OK)
	expectWhere(t, still, 3, api.Range{}, api.ErrNone)
	expectWhere(t, longest(), 199999, one(19), api.OK)
	expectWhere(t, longest(), 200000, api.Range{}, api.ErrNone)
	expectWhere(t, longest(), 200001, api.Range{}, api.ErrArg)
	expectWhere(t, l, -1, api.Range{}, api.ErrArg)
	expectWhere(t, l, math.MinInt, api.Range{}, api.ErrArg)
	expectWhere(t, append(l, passage(1, 0, 0, 0)), -1, api.Range{}, api.ErrPassage)
}

// somePassages are few, of few hours.
func somePassages(r *rand.Rand) []api.Passage {
	var l []api.Passage
	for range r.Intn(4) {
		l = append(l, api.Passage{Hours: someRange(r, span(0, 3)), Burn: someRange(r, span(0, 4))})
	}
	return l
}

// expectPlainly compares what is told of passages with what all choices of their numbers lead to.
func expectPlainly(t *testing.T, l []api.Passage, mass api.Range, reserve int) {
	t.Helper()
	all := trips(l)
	var hours, burnt []int
	var enough []bool
	left := make([][]int, len(l))
	for _, x := range all {
		hours, burnt = append(hours, sumOf(x.hours)), append(burnt, sumOf(x.burnt))
		for _, m := range numbers(mass) {
			enough = append(enough, m-sumOf(x.burnt) >= reserve)
			for i, n := range x.burnt {
				m = max(0, m-n)
				left[i] = append(left[i], m)
			}
		}
	}
	expectSums(t, l, hullOf(hours), hullOf(burnt))
	var want []api.Range
	for _, masses := range left {
		want = append(want, hullOf(masses))
	}
	expectLeft(t, mass, l, want, api.OK)
	expectEnough(t, mass, l, reserve, answerOf(enough), api.OK)
	expectNeed(t, l, reserve, slices.Max(burnt)+reserve, api.OK)
	for hour := range 12 {
		var in []int
		for i := range l {
			if slices.ContainsFunc(all, func(x trip) bool { return x.isIn(i, hour) }) {
				in = append(in, i)
			}
		}
		if in == nil {
			expectWhere(t, l, hour, api.Range{}, api.ErrNone)
		} else {
			expectWhere(t, l, hour, hullOf(in), api.OK)
		}
	}
}

func TestPassagesPlainly(t *testing.T) {
	r := rand.New(rand.NewSource(71))
	for range 400 {
		expectPlainly(t, somePassages(r), someRange(r, span(0, 40)), r.Intn(12))
	}
}
