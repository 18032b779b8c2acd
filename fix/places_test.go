package fix_test

import (
	"fmt"
	"math"
	"math/rand"
	"slices"
	"testing"

	"ullage/api"
	"ullage/fix"
)

// valuesOf are At at the whole places of a table's domain.
func valuesOf(t api.Table) []api.Range {
	var l []api.Range
	first, last := ends(t)
	for x := first; x <= last; x++ {
		l = append(l, wantAt(t, x))
	}
	return l
}

// runsOf are the runs of the places, from first on, at whose values so holds.
func runsOf(first int, values []api.Range, so func(v api.Range) bool) []api.Range {
	var l []api.Range
	for i, v := range values {
		x := first + i
		if !so(v) {
			continue
		}
		if n := len(l) - 1; n >= 0 && l[n].Hi == x-1 {
			l[n].Hi = x
		} else {
			l = append(l, span(x, x))
		}
	}
	return l
}

func expectRuns(t *testing.T, what string, got []api.Range, e api.Errno, want []api.Range) {
	t.Helper()
	if !slices.Equal(got, want) || e != api.OK {
		t.Errorf("%s = %v, %d; expected %v", what, got, e, want)
	}
}

func TestRisingAndFalling(t *testing.T) {
	for _, x := range []struct {
		t               api.Table
		rising, falling bool
	}{
		{exampleT(), true, false},
		{exampleU(), false, false},
		{flat(4, 1, 1, 9), true, true},
		{flat(4, 5, 2, 2), true, true},
		{flat(4, 2, 2, 3), false, false},
		{tableOf([3]int{0, 1, 3}, [3]int{1, 3, 4}, [3]int{2, 4, 9}), true, false},
		{tableOf([3]int{0, 1, 3}, [3]int{1, 2, 4}), false, false},
		{tableOf([3]int{0, 1, 3}, [3]int{1, 3, 4}, [3]int{2, 3, 4}), false, false},
		{tableOf([3]int{0, 4, 9}, [3]int{1, 3, 4}, [3]int{2, 1, 3}), false, true},
		{tableOf([3]int{0, 4, 9}, [3]int{1, 3, 5}), false, false},
		{tableOf([3]int{0, 4, 9}, [3]int{1, 3, 4}, [3]int{2, 3, 4}), false, false},
		{tableOf([3]int{0, -9, -4}, [3]int{1, -4, -4}, [3]int{2, -3, 0}), true, false},
	} {
		if fix.Rising(x.t) != x.rising || fix.Falling(x.t) != x.falling {
			t.Errorf("Rising, Falling of %v = %v, %v", x.t, fix.Rising(x.t), fix.Falling(x.t))
		}
	}
}

func TestPlacesExamples(t *testing.T) {
	l, e := fix.Where(exampleT(), span(6, 6))
	expectRuns(t, "Where", l, e, []api.Range{span(7, 13)})
	l, e = fix.Above(exampleT(), 6)
	expectRuns(t, "Above", l, e, []api.Range{span(12, 40)})
}

func TestWhereAndAbove(t *testing.T) {
	r := rand.New(rand.NewSource(8))
	runs := map[int]bool{}
	for range 300 {
		x := randomTable(r, 6, 16, 5)
		first, values := x.Points[0].X, valuesOf(x)
		for lo := -7; lo <= 7; lo++ {
			for hi := lo; hi <= 7; hi++ {
				l, e := fix.Where(x, span(lo, hi))
				expectRuns(t, fmt.Sprint("Where ", x, lo, hi), l, e, runsOf(first, values, func(v api.Range) bool { return v.Lo <= hi && lo <= v.Hi }))
				runs[len(l)] = true
			}
			l, e := fix.Above(x, lo)
			expectRuns(t, fmt.Sprint("Above ", x, lo), l, e, runsOf(first, values, func(v api.Range) bool { return v.Lo >= lo }))
		}
	}
	if !runs[0] || !runs[1] || !runs[2] || !runs[3] {
		t.Error("there were not as many runs as should be tried")
	}
	for range 3 {
		x := randomTable(r, api.MaxPoints, 3000, api.MaxY)
		first, values := x.Points[0].X, valuesOf(x)
		for range 10 {
			lo := r.Intn(2*api.MaxY) - api.MaxY
			hi := lo + r.Intn(100000000)
			l, e := fix.Where(x, span(lo, hi))
			expectRuns(t, fmt.Sprint("Where ", x, lo, hi), l, e, runsOf(first, values, func(v api.Range) bool { return v.Lo <= hi && lo <= v.Hi }))
			l, e = fix.Above(x, lo)
			expectRuns(t, fmt.Sprint("Above ", x, lo), l, e, runsOf(first, values, func(v api.Range) bool { return v.Lo >= lo }))
		}
	}
}

func TestPlacesAtLimits(t *testing.T) {
	steep := tableOf([3]int{0, -api.MaxY, -api.MaxY}, [3]int{api.MaxX, api.MaxY, api.MaxY})
	all := []api.Range{span(0, api.MaxX)}
	l, e := fix.Where(steep, span(-api.MaxWide, api.MaxWide))
	expectRuns(t, "Where of all numbers", l, e, all)
	l, e = fix.Where(steep, span(0, 0))
	expectRuns(t, "Where of 0", l, e, []api.Range{span(api.MaxX/2, api.MaxX/2)})
	l, e = fix.Where(steep, span(1, 1999))
	expectRuns(t, "Where of a gap between places", l, e, nil)
	l, e = fix.Where(steep, span(api.MaxY+1, api.MaxWide))
	expectRuns(t, "Where above all", l, e, nil)
	l, e = fix.Where(steep, span(-api.MaxWide, -api.MaxY))
	expectRuns(t, "Where of the least", l, e, []api.Range{span(0, 0)})
	for _, y := range []int{math.MinInt, -api.MaxWide - 1, -api.MaxY} {
		l, e = fix.Above(steep, y)
		expectRuns(t, "Above the least", l, e, all)
	}
	for _, y := range []int{api.MaxY + 1, api.MaxWide + 1, math.MaxInt} {
		l, e = fix.Above(steep, y)
		expectRuns(t, "Above the greatest", l, e, nil)
	}
	l, e = fix.Above(steep, api.MaxY)
	expectRuns(t, "Above at the end", l, e, []api.Range{span(api.MaxX, api.MaxX)})
	one := tableOf([3]int{7, -1, 2})
	l, e = fix.Where(one, span(2, 9))
	expectRuns(t, "Where of one point", l, e, []api.Range{span(7, 7)})
	l, e = fix.Where(one, span(3, 9))
	expectRuns(t, "Where not of one point", l, e, nil)
	l, e = fix.Above(one, -1)
	expectRuns(t, "Above of one point", l, e, []api.Range{span(7, 7)})
	l, e = fix.Above(one, 0)
	expectRuns(t, "Above not of one point", l, e, nil)
	for _, bad := range badRanges() {
		l, e = fix.Where(exampleT(), bad)
		expect(t, fmt.Sprint("Where ", bad), len(l), e, 0, api.ErrRange)
	}
}

// TestManyRuns has a run for each peak of a table.
func TestManyRuns(t *testing.T) {
	var x api.Table
	var want []api.Range
	for i := range api.MaxPoints {
		x.Points = append(x.Points, api.Point{X: 10 * i, Lo: i % 2 * 10, Hi: i % 2 * 10})
		if i%2 == 1 {
			want = append(want, span(10*i-1, min(10*i+1, 10*(api.MaxPoints-1))))
		}
	}
	l, e := fix.Above(x, 9)
	expectRuns(t, "Above of peaks", l, e, want)
	l, e = fix.Where(x, span(9, 10))
	expectRuns(t, "Where of peaks", l, e, want)
}
