package voyage_test

import (
	"math"
	"math/rand"
	"slices"
	"testing"

	"ullage/api"
	"ullage/voyage"
)

// exampleM has the masses of the chapter's examples, and emptied the steps that empty both tanks.
func exampleM() []api.Range { return ranges(one(10), one(20)) }
func emptied() []api.Step   { return []api.Step{step(0, 0, 0), step(1, 0, 0)} }

// fullest are the greatest masses that there may be.
func fullest() []api.Range { return slices.Repeat(ranges(one(api.MaxLevel)), api.MaxBallast) }

func TestCheckSteps(t *testing.T) {
	for _, x := range []struct {
		m []api.Range
		l []api.Step
		e api.Errno
	}{
		{nil, nil, api.OK},
		{exampleM(), emptied(), api.OK},
		{fullest(), slices.Repeat([]api.Step{step(7, 0, api.MaxLevel)}, 16), api.OK},
		{append(fullest(), one(0)), nil, api.ErrLong},
		{append(fullest(), span(1, 0)), nil, api.ErrLong},
		{ranges(one(0), span(-1, 0)), nil, api.ErrLevels},
		{ranges(span(1, 0)), nil, api.ErrLevels},
		{ranges(span(0, api.MaxLevel+1)), nil, api.ErrLevels},
		{ranges(span(math.MinInt, math.MaxInt)), nil, api.ErrLevels},
		{exampleM(), slices.Repeat(emptied(), 9), api.ErrLong},
		{exampleM(), slices.Repeat([]api.Step{step(2, 0, 0)}, 17), api.ErrLong},
		{ranges(span(1, 0)), slices.Repeat(emptied(), 9), api.ErrLevels},
		{exampleM(), []api.Step{step(1, 0, 0), step(2, 0, 0)}, api.ErrStep},
		{exampleM(), []api.Step{step(-1, 0, 0)}, api.ErrStep},
		{exampleM(), []api.Step{step(math.MaxInt, 0, 0)}, api.ErrStep},
		{nil, []api.Step{step(0, 0, 0)}, api.ErrStep},
		{exampleM(), []api.Step{step(0, -1, 0)}, api.ErrStep},
		{exampleM(), []api.Step{step(0, 1, 0)}, api.ErrStep},
		{exampleM(), []api.Step{step(0, 0, api.MaxLevel+1)}, api.ErrStep},
	} {
		if e := voyage.CheckSteps(x.m, x.l); e != x.e {
			t.Errorf("CheckSteps of %v and %v: %d, want %d", x.m, x.l, e, x.e)
		}
		if l, e := voyage.During(x.m, x.l); e != x.e || e != api.OK && l != nil {
			t.Errorf("During of %v and %v: %v %d, want %d", x.m, x.l, l, e, x.e)
		}
	}
}

// sameMasses compares lists of masses.
func sameMasses(a, b [][]api.Range) bool { return slices.EqualFunc(a, b, slices.Equal[[]api.Range]) }

func expectMasses(t *testing.T, m []api.Range, l []api.Step, during, after [][]api.Range) {
	t.Helper()
	if got, e := voyage.During(m, l); !sameMasses(got, during) || e != api.OK {
		t.Errorf("During of %v and %v: %v %d, want %v", m, l, got, e, during)
	}
	if got, e := voyage.After(m, l); !sameMasses(got, after) || e != api.OK {
		t.Errorf("After of %v and %v: %v %d, want %v", m, l, got, e, after)
	}
}

func TestAfterAndDuring(t *testing.T) {
	m := exampleM()
	expectMasses(t, m, emptied(), [][]api.Range{{span(0, 10), one(20)}, {one(0), span(0, 20)}}, [][]api.Range{{one(0), one(20)}, {one(0), one(0)}})
	expectMasses(t, m, nil, nil, nil)
	expectMasses(t, nil, nil, nil, nil)
	// One tank twice: what it was is what it became.
	expectMasses(t, m, []api.Step{step(0, 3, 7), step(0, 30, 31)}, [][]api.Range{{span(3, 10), one(20)}, {span(3, 31), one(20)}}, [][]api.Range{{span(3, 7), one(20)}, {span(30, 31), one(20)}})
	expectMasses(t, ranges(span(0, 9)), []api.Step{step(0, 4, 5)}, [][]api.Range{{span(0, 9)}}, [][]api.Range{{span(4, 5)}})
	if l, e := voyage.After(m, []api.Step{step(2, 0, 0)}); l != nil || e != api.ErrStep {
		t.Error(l, e)
	}
}

func expectMoment(t *testing.T, m []api.Range, arms []int, want api.Range, e api.Errno) {
	t.Helper()
	if got, f := voyage.Moment(m, arms); got != want || f != e {
		t.Errorf("Moment of %v and %v: %v %d, want %v %d", m, arms, got, f, want, e)
	}
}

func TestMoment(t *testing.T) {
	expectMoment(t, exampleM(), []int{3, -1}, one(10), api.OK)
	expectMoment(t, ranges(span(1, 4), span(2, 5)), []int{3, -2}, span(-7, 8), api.OK)
	expectMoment(t, ranges(span(1, 4)), []int{0}, one(0), api.OK)
	expectMoment(t, nil, nil, one(0), api.OK)
	expectMoment(t, fullest(), slices.Repeat([]int{api.MaxArm}, 8), one(800000000000000), api.OK)
	expectMoment(t, fullest(), slices.Repeat([]int{-api.MaxArm}, 8), one(-800000000000000), api.OK)
	expectMoment(t, exampleM(), []int{3}, api.Range{}, api.ErrArg)
	expectMoment(t, exampleM(), []int{3, 4, 5}, api.Range{}, api.ErrArg)
	expectMoment(t, exampleM(), []int{3, api.MaxArm + 1}, api.Range{}, api.ErrArg)
	expectMoment(t, exampleM(), []int{math.MinInt, 3}, api.Range{}, api.ErrArg)
	expectMoment(t, nil, []int{0}, api.Range{}, api.ErrArg)
	expectMoment(t, ranges(span(1, 0)), nil, api.Range{}, api.ErrLevels)
	expectMoment(t, append(fullest(), span(1, 0)), nil, api.Range{}, api.ErrLong)
}

func expectTilts(t *testing.T, m []api.Range, l []api.Step, arms []int, limit, want int, e api.Errno) {
	t.Helper()
	if got, f := voyage.Tilts(m, l, arms, limit); got != want || f != e {
		t.Errorf("Tilts of %v, %v, %v and %d: %d %d, want %d %d", m, l, arms, limit, got, f, want, e)
	}
}

func TestTilts(t *testing.T) {
	m, arms := exampleM(), []int{3, -1}
	expectTilts(t, m, emptied(), arms, 15, 0, api.OK)
	expectTilts(t, m, emptied(), arms, 20, -1, api.OK)
	expectTilts(t, m, emptied(), arms, 19, 0, api.OK)
	// The other way round the moment grows to 30 above 0.
	other := []api.Step{step(1, 0, 0), step(0, 0, 0)}
	expectTilts(t, m, other, arms, 29, 0, api.OK)
	expectTilts(t, m, other, arms, 30, -1, api.OK)
	// What is too much ahead of the first step is so during it; without steps nothing is asked.
	expectTilts(t, m, []api.Step{step(1, 20, 40)}, arms, 9, 0, api.OK)
	expectTilts(t, m, nil, arms, 0, -1, api.OK)
	expectTilts(t, nil, nil, nil, 0, -1, api.OK)
	// Later steps: on both sides of the limit, and on the way between two masses that keep it.
	expectTilts(t, ranges(one(5)), []api.Step{step(0, 3, 5), step(0, 2, 6), step(0, 2, 7)}, []int{2}, 12, 2, api.OK)
	expectTilts(t, ranges(one(5)), []api.Step{step(0, 3, 5), step(0, 2, 6), step(0, 2, 7)}, []int{-2}, 11, 1, api.OK)
	expectTilts(t, fullest(), []api.Step{step(0, 0, 0)}, slices.Repeat([]int{api.MaxArm}, 8), 799999999999999, 0, api.OK)
	expectTilts(t, fullest(), []api.Step{step(0, 0, 0)}, slices.Repeat([]int{api.MaxArm}, 8), api.MaxWide, -1, api.OK)
	expectTilts(t, m, emptied(), arms, -1, 0, api.ErrArg)
	expectTilts(t, m, emptied(), arms, api.MaxWide+1, 0, api.ErrArg)
	expectTilts(t, m, emptied(), arms, math.MinInt, 0, api.ErrArg)
	expectTilts(t, m, emptied(), arms[:1], 20, 0, api.ErrArg)
	expectTilts(t, m, nil, []int{0, api.MaxArm + 1}, 20, 0, api.ErrArg)
	expectTilts(t, m, []api.Step{step(2, 0, 0)}, arms[:1], 20, 0, api.ErrStep)
}

func expectOrder(t *testing.T, m []api.Range, l []api.Step, arms []int, limit int, want []int, e api.Errno) {
	t.Helper()
	if got, f := voyage.Order(m, l, arms, limit); !slices.Equal(got, want) || f != e {
		t.Errorf("Order of %v, %v, %v and %d: %v %d, want %v %d", m, l, arms, limit, got, f, want, e)
	}
}

func TestOrder(t *testing.T) {
	m, arms := exampleM(), []int{3, -1}
	expectOrder(t, m, emptied(), arms, 10, nil, api.ErrNone)
	expectOrder(t, m, emptied(), arms, 19, nil, api.ErrNone)
	expectOrder(t, m, emptied(), arms, 20, []int{0, 1}, api.OK)
	expectOrder(t, m, emptied(), arms, 30, []int{0, 1}, api.OK)
	expectOrder(t, m, []api.Step{step(1, 0, 0), step(0, 0, 0)}, arms, 20, []int{1, 0}, api.OK)
	expectOrder(t, ranges(one(10), one(10)), []api.Step{step(0, 20, 20), step(1, 0, 0)}, []int{1, 1}, 20, []int{1, 0}, api.OK)
	expectOrder(t, m, nil, arms, 0, nil, api.OK)
	expectOrder(t, nil, nil, nil, 0, nil, api.OK)
	// Equal steps: the first one is ahead.
	expectOrder(t, m, slices.Repeat([]api.Step{step(0, 10, 10)}, 7), arms, 10, []int{0, 1, 2, 3, 4, 5, 6}, api.OK)
	expectOrder(t, m, slices.Repeat([]api.Step{step(0, 10, 10)}, 8), arms, 10, nil, api.ErrLong)
	expectOrder(t, m, slices.Repeat([]api.Step{step(0, 10, 10)}, 8), arms, -1, nil, api.ErrArg)
	expectOrder(t, m, slices.Repeat([]api.Step{step(0, 10, 10)}, 8), arms[:1], 10, nil, api.ErrArg)
	expectOrder(t, m, slices.Repeat([]api.Step{step(2, 10, 10)}, 8), arms, 10, nil, api.ErrStep)
	expectOrder(t, m, slices.Repeat([]api.Step{step(0, 10, 10)}, 17), arms, -1, nil, api.ErrLong)
}

// TestOrderOfOneTank: the masses behind steps of one tank rest on their order, so that the same steps lead on by one order and not by another one.
func TestOrderOfOneTank(t *testing.T) {
	m, arms := ranges(one(0), one(0), one(2)), []int{1, -1, -1}
	// With 1 in the first tank, the second one cannot be filled: 1 - 9 - 2 is -10.
	l := []api.Step{step(0, 9, 9), step(0, 1, 1), step(1, 9, 9)}
	expectOrder(t, m, l, arms, 8, []int{1, 0, 2}, api.OK)
	expectOrder(t, m, l, arms, 10, []int{0, 1, 2}, api.OK)
	expectOrder(t, m, l, arms, 6, nil, api.ErrNone)
	expectOrder(t, m, []api.Step{step(0, 1, 1), step(0, 9, 9), step(1, 9, 9)}, arms, 8, []int{0, 1, 2}, api.OK)
}

// someBallast has few tanks, steps and small masses.
func someBallast(r *rand.Rand, tanks, steps int) ([]api.Range, []api.Step, []int) {
	var m []api.Range
	var arms []int
	for range tanks {
		m, arms = append(m, someRange(r, span(0, 5))), append(arms, r.Intn(7)-3)
	}
	var l []api.Step
	for range steps {
		to := someRange(r, span(0, 5))
		if r.Intn(2) == 0 {
			to = one(to.Lo)
		}
		l = append(l, api.Step{Tank: r.Intn(tanks), To: to})
	}
	return m, l, arms
}

// someLimit is one that the moment at first keeps.
func someLimit(r *rand.Rand, m []api.Range, arms []int) int {
	limit := 0
	for _, masses := range chosen(m) {
		limit = max(limit, momentOf(masses, arms), -momentOf(masses, arms))
	}
	return limit + r.Intn(12)
}

func TestBallastPlainly(t *testing.T) {
	r := rand.New(rand.NewSource(72))
	tilted := map[int]int{}
	for range 1500 {
		m, l, arms := someBallast(r, 1+r.Intn(3), r.Intn(4))
		while, behind := instants(m, l)
		var during, after [][]api.Range
		for i := range l {
			during, after = append(during, hulls(while[i])), append(after, hulls(behind[i]))
		}
		expectMasses(t, m, l, during, after)
		var moments []int
		for _, masses := range chosen(m) {
			moments = append(moments, momentOf(masses, arms))
		}
		expectMoment(t, m, arms, hullOf(moments), api.OK)
		limit := max(0, someLimit(r, m, arms)-r.Intn(2))
		want := firstTilt(m, l, arms, limit)
		tilted[want]++
		expectTilts(t, m, l, arms, limit, want, api.OK)
	}
	for i := -1; i < 3; i++ {
		if tilted[i] < 10 {
			t.Error("too few cases:", i, tilted[i])
		}
	}
}

func TestOrderPlainly(t *testing.T) {
	r := rand.New(rand.NewSource(73))
	found := map[string]int{}
	for i := range 2000 {
		m, l, arms := someBallast(r, 1+r.Intn(3), r.Intn(4))
		limit := someLimit(r, m, arms)
		tilts := func(m []api.Range, l []api.Step) int { return firstTilt(m, l, arms, limit) }
		if i >= 1000 {
			// Of more steps, what TestBallastPlainly compares serves in the place of all instants.
			m, l, arms = someBallast(r, 1+r.Intn(4), 4+r.Intn(3))
			limit = someLimit(r, m, arms)
			tilts = func(m []api.Range, l []api.Step) int {
				i, _ := voyage.Tilts(m, l, arms, limit)
				return i
			}
		}
		want, e := firstOrder(m, l, tilts)
		expectOrder(t, m, l, arms, limit, want, e)
		switch {
		case e != api.OK:
			found["none"]++
		case slices.IsSorted(want):
			found["first"]++
		default:
			found["other"]++
		}
	}
	for _, what := range []string{"none", "first", "other"} {
		if found[what] < 60 {
			t.Error("too few cases:", what, found[what])
		}
	}
}

// TestOrderOfSeven: seven steps of one tank, and of several, by all their orders.
func TestOrderOfSeven(t *testing.T) {
	r := rand.New(rand.NewSource(74))
	for range 12 {
		m, l, arms := someBallast(r, 1+r.Intn(6), 7)
		limit := someLimit(r, m, arms)
		want, e := firstOrder(m, l, func(m []api.Range, l []api.Step) int {
			i, _ := voyage.Tilts(m, l, arms, limit)
			return i
		})
		expectOrder(t, m, l, arms, limit, want, e)
	}
}
