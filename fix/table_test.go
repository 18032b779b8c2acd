package fix_test

import (
	"fmt"
	"math"
	"math/rand"
	"slices"
	"testing"

	"ullage/api"
	"ullage/fix"
)

// expectTable tells where a table is not the wanted one.
func expectTable(t *testing.T, what string, got api.Table, e api.Errno, want api.Table, wantE api.Errno) {
	t.Helper()
	if !slices.Equal(got.Points, want.Points) || e != wantE {
		t.Errorf("%s = %v, %d; expected %v, %d", what, got, e, want, wantE)
	}
}

// flat has n points, one place apart, with the same values.
func flat(first, n, lo, hi int) api.Table {
	var t api.Table
	for i := range n {
		t.Points = append(t.Points, api.Point{X: first + i, Lo: lo, Hi: hi})
	}
	return t
}

func TestCheckTable(t *testing.T) {
	for _, x := range []api.Table{exampleT(), exampleU(), flat(0, 1, 0, 0), flat(api.MaxX, 1, -api.MaxY, api.MaxY), flat(5, api.MaxPoints, 1, 2),
		tableOf([3]int{0, -api.MaxY, -api.MaxY}, [3]int{api.MaxX, api.MaxY, api.MaxY}), tableOf([3]int{0, 3, 3}, [3]int{1, -4, 3})} {
		if e := fix.CheckTable(x); e != api.OK {
			t.Errorf("CheckTable(%v) = %d; expected 0", x, e)
		}
	}
	for _, x := range badTables() {
		if e := fix.CheckTable(x); e != api.ErrTable {
			t.Errorf("CheckTable(%v) = %d; expected ErrTable", x, e)
		}
	}
}

func TestCheckCurve(t *testing.T) {
	for _, x := range []struct {
		t api.Table
		c []int
		e api.Errno
	}{
		{exampleT(), []int{0, 5, 20}, api.OK},
		{exampleT(), []int{0, 8, 20}, api.OK},
		{exampleT(), []int{0, 4, 20}, api.ErrOut},
		{exampleT(), []int{0, 9, 20}, api.ErrOut},
		{exampleT(), []int{1, 6, 20}, api.ErrOut},
		{exampleT(), []int{0, 6, 19}, api.ErrOut},
		{exampleT(), []int{0, 6}, api.ErrOut},
		{exampleT(), []int{0, 6, 20, 20}, api.ErrOut},
		{exampleT(), nil, api.ErrOut},
		{exampleT(), []int{0, math.MinInt, math.MaxInt}, api.ErrOut},
		{flat(3, 1, -api.MaxY, api.MaxY), []int{-api.MaxY}, api.OK},
		{flat(3, 1, -api.MaxY, api.MaxY), []int{api.MaxY + 1}, api.ErrOut},
	} {
		if e := fix.CheckCurve(x.t, x.c); e != x.e {
			t.Errorf("CheckCurve(%v, %v) = %d; expected %d", x.t, x.c, e, x.e)
		}
	}
	for _, bad := range badTables() {
		if e := fix.CheckCurve(bad, nil); e != api.ErrTable {
			t.Errorf("CheckCurve(%v, nil) = %d; expected ErrTable", bad, e)
		}
		if e := fix.CheckCurve(bad, make([]int, len(bad.Points))); e != api.ErrTable {
			t.Errorf("CheckCurve(%v, zeros) = %d; expected ErrTable", bad, e)
		}
	}
}

func TestTableExamples(t *testing.T) {
	r, e := fix.At(exampleT(), 5)
	expect(t, "At 5", r, e, span(2, 4), api.OK)
	r, e = fix.At(exampleT(), 11)
	expect(t, "At 11", r, e, span(5, 9), api.OK)
	r, e = fix.Over(exampleT(), span(5, 12))
	expect(t, "Over", r, e, span(2, 9), api.OK)
	u, e := fix.Plus(exampleT(), exampleU())
	expectTable(t, "Plus", u, e, tableOf([3]int{5, 3, 6}, [3]int{10, 6, 11}, [3]int{20, 11, 16}), api.OK)
	u, e = fix.Times(exampleT(), -1, 2)
	expectTable(t, "Times", u, e, tableOf([3]int{0, 0, 0}, [3]int{10, -4, -2}, [3]int{40, -10, -10}), api.OK)
	u, e = fix.Cut(exampleT(), 5, 11)
	expectTable(t, "Cut", u, e, tableOf([3]int{5, 2, 4}, [3]int{10, 5, 8}, [3]int{11, 5, 9}), api.OK)
	u, e = fix.Either(exampleT(), exampleU())
	expectTable(t, "Either", u, e, tableOf([3]int{5, 1, 4}, [3]int{10, 1, 8}, [3]int{20, 1, 12}), api.OK)
}

func TestAtEachPlace(t *testing.T) {
	r := rand.New(rand.NewSource(3))
	for _, x := range randomTables(r, 60) {
		first, last := ends(x)
		for n := first; n <= last; n += 1 + (last-first)/200 {
			got, e := fix.At(x, n)
			expect(t, fmt.Sprint("At ", x, n), got, e, wantAt(x, n), api.OK)
		}
		for _, p := range x.Points {
			got, e := fix.At(x, p.X)
			expect(t, fmt.Sprint("At ", x, p.X), got, e, span(p.Lo, p.Hi), api.OK)
		}
		for _, n := range []int{math.MinInt, first - 1, last + 1, math.MaxInt} {
			got, e := fix.At(x, n)
			expect(t, fmt.Sprint("At ", x, n), got, e, api.Range{}, api.ErrOut)
		}
	}
}

func TestOverEachRange(t *testing.T) {
	r := rand.New(rand.NewSource(4))
	for _, x := range randomTables(r, 60) {
		first, last := ends(x)
		for range 10 {
			places := randomPlaces(r, x)
			got, e := fix.Over(x, places)
			expect(t, fmt.Sprint("Over ", x, places), got, e, wantOver(x, places), api.OK)
		}
		for _, places := range []api.Range{span(first, last), span(first, first), span(last, last)} {
			got, e := fix.Over(x, places)
			expect(t, fmt.Sprint("Over ", x, places), got, e, wantOver(x, places), api.OK)
		}
		for _, places := range []api.Range{span(first-1, last), span(first, last+1), span(first-1, first-1), span(last+1, last+1), span(-api.MaxWide, api.MaxWide)} {
			got, e := fix.Over(x, places)
			expect(t, fmt.Sprint("Over ", x, places), got, e, api.Range{}, api.ErrOut)
		}
		for _, places := range append(badRanges(), span(last, first-1)) {
			got, e := fix.Over(x, places)
			expect(t, fmt.Sprint("Over ", x, places), got, e, api.Range{}, api.ErrRange)
		}
	}
}

// wantBoth is Plus or Either, at each X of a point at the places of both.
func wantBoth(x, y api.Table, with func(a, b api.Range) api.Range) (api.Table, api.Errno) {
	xFirst, xLast := ends(x)
	yFirst, yLast := ends(y)
	var places []int
	for _, p := range append(append([]api.Point{}, x.Points...), y.Points...) {
		if p.X >= max(xFirst, yFirst) && p.X <= min(xLast, yLast) && !slices.Contains(places, p.X) {
			places = append(places, p.X)
		}
	}
	slices.Sort(places)
	if max(xFirst, yFirst) > min(xLast, yLast) {
		return api.Table{}, api.ErrOut
	}
	if len(places) > api.MaxPoints {
		return api.Table{}, api.ErrLong
	}
	var t api.Table
	for _, n := range places {
		r := with(wantAt(x, n), wantAt(y, n))
		if r.Lo < -api.MaxY || r.Hi > api.MaxY {
			return api.Table{}, api.ErrBig
		}
		t.Points = append(t.Points, api.Point{X: n, Lo: r.Lo, Hi: r.Hi})
	}
	return t, api.OK
}

func plusOf(a, b api.Range) api.Range { return span(a.Lo+b.Lo, a.Hi+b.Hi) }

func TestPlusAndEither(t *testing.T) {
	r := rand.New(rand.NewSource(5))
	l := append(randomTables(r, 12), flat(0, api.MaxPoints, 1, 2), flat(1, api.MaxPoints, 1, 2), flat(39, api.MaxPoints, -3, 4), flat(40, 2, 1, 1))
	seen := map[api.Errno]int{}
	for _, x := range l {
		for _, y := range l {
			want, wantE := wantBoth(x, y, plusOf)
			got, e := fix.Plus(x, y)
			expectTable(t, fmt.Sprint("Plus ", x, y), got, e, want, wantE)
			seen[e]++
			want, wantE = wantBoth(x, y, hullOf)
			got, e = fix.Either(x, y)
			expectTable(t, fmt.Sprint("Either ", x, y), got, e, want, wantE)
		}
	}
	for _, e := range []api.Errno{api.OK, api.ErrOut, api.ErrLong, api.ErrBig} {
		if seen[e] == 0 {
			t.Errorf("no Plus came to %d", e)
		}
	}
}

// thinned has the points of flat with an odd X from first on, or the others, behind first and ahead of last.
func thinned(first, last, odd, high int) api.Table {
	t := tableOf([3]int{first, high, high})
	for x := first + 1; x < last; x++ {
		if x%2 == odd {
			t.Points = append(t.Points, api.Point{X: x, Lo: high, Hi: high})
		}
	}
	t.Points = append(t.Points, api.Point{X: last, Lo: high, Hi: high})
	return t
}

func TestManyPoints(t *testing.T) {
	got, e := fix.Plus(thinned(0, api.MaxPoints-1, 0, 1), thinned(0, api.MaxPoints-1, 1, 1))
	expectTable(t, "Plus with MaxPoints", got, e, flat(0, api.MaxPoints, 2, 2), api.OK)
	got, e = fix.Plus(thinned(0, api.MaxPoints, 0, 1), thinned(0, api.MaxPoints, 1, 1))
	expectTable(t, "Plus with more", got, e, api.Table{}, api.ErrLong)
	got, e = fix.Plus(thinned(0, api.MaxPoints, 0, api.MaxY), thinned(0, api.MaxPoints, 1, api.MaxY))
	expectTable(t, "Plus with more, and great", got, e, api.Table{}, api.ErrLong)
	got, e = fix.Either(thinned(0, api.MaxPoints-1, 0, 1), thinned(0, api.MaxPoints-1, 1, 2))
	expectTable(t, "Either with MaxPoints", got, e, flat(0, api.MaxPoints, 1, 2), api.OK)
	got, e = fix.Either(thinned(0, api.MaxPoints, 0, 1), thinned(0, api.MaxPoints, 1, 2))
	expectTable(t, "Either with more", got, e, api.Table{}, api.ErrLong)
	// Points outside of the other domain do not count.
	got, e = fix.Plus(flat(0, api.MaxPoints, 1, 1), flat(api.MaxPoints-1, api.MaxPoints, 2, 2))
	expectTable(t, "Plus at one place", got, e, flat(api.MaxPoints-1, 1, 3, 3), api.OK)
}

func TestGreatSums(t *testing.T) {
	for _, x := range []struct {
		a, b api.Range
		e    api.Errno
	}{
		{span(0, api.MaxY-1), span(0, 1), api.OK},
		{span(0, api.MaxY), span(0, 1), api.ErrBig},
		{span(1-api.MaxY, 0), span(-1, 0), api.OK},
		{span(-api.MaxY, 0), span(-1, 0), api.ErrBig},
	} {
		want := api.Table{}
		if x.e == api.OK {
			want = flat(2, 1, x.a.Lo+x.b.Lo, x.a.Hi+x.b.Hi)
		}
		got, e := fix.Plus(flat(2, 1, x.a.Lo, x.a.Hi), flat(2, 1, x.b.Lo, x.b.Hi))
		expectTable(t, fmt.Sprint("Plus of ", x.a, x.b), got, e, want, x.e)
		// A great sum at the last point only is found, too.
		got, e = fix.Plus(tableOf([3]int{1, 0, 0}, [3]int{2, x.a.Lo, x.a.Hi}), tableOf([3]int{0, 0, 0}, [3]int{2, x.b.Lo, x.b.Hi}))
		if e != x.e || e != api.OK && len(got.Points) > 0 {
			t.Errorf("Plus with %v and %v at last = %v, %d; expected %d", x.a, x.b, got, e, x.e)
		}
	}
	got, e := fix.Plus(flat(0, 2, api.MaxY, api.MaxY), flat(2, 2, api.MaxY, api.MaxY))
	expectTable(t, "Plus of tables apart, and great", got, e, api.Table{}, api.ErrOut)
	got, e = fix.Either(flat(1, 1, -api.MaxY, 0), flat(1, 1, 0, api.MaxY))
	expectTable(t, "Either of the greatest", got, e, flat(1, 1, -api.MaxY, api.MaxY), api.OK)
	got, e = fix.Either(flat(0, 2, 0, 0), flat(2, 2, 0, 0))
	expectTable(t, "Either of tables apart", got, e, api.Table{}, api.ErrOut)
}

func TestTimes(t *testing.T) {
	r := rand.New(rand.NewSource(6))
	for _, x := range randomTables(r, 30) {
		for _, f := range [][2]int{{1, 1}, {0, 1}, {-1, 1}, {1, 2}, {-2, 3}, {7, 3}, {api.MaxY, api.MaxY}, {-api.MaxY, 1}, {1, api.MaxY}, {api.MaxY - 1, api.MaxY}} {
			want, wantE := api.Table{}, api.OK
			for _, p := range x.Points {
				v, e := wantScale(span(p.Lo, p.Hi), f[0], f[1])
				if e != api.OK || v.Lo < -api.MaxY || v.Hi > api.MaxY {
					want, wantE = api.Table{}, api.ErrBig
					break
				}
				want.Points = append(want.Points, api.Point{X: p.X, Lo: v.Lo, Hi: v.Hi})
			}
			got, e := fix.Times(x, f[0], f[1])
			expectTable(t, fmt.Sprint("Times ", x, f), got, e, want, wantE)
		}
	}
	got, e := fix.Times(flat(7, 1, -api.MaxY, api.MaxY), -1, 1)
	expectTable(t, "Times less 1", got, e, flat(7, 1, -api.MaxY, api.MaxY), api.OK)
	got, e = fix.Times(tableOf([3]int{0, 0, 0}, [3]int{1, 0, api.MaxY}), api.MaxY, api.MaxY-1)
	expectTable(t, "Times just above 1", got, e, api.Table{}, api.ErrBig)
	got, e = fix.Times(tableOf([3]int{0, 0, 0}, [3]int{1, -api.MaxY, 0}), api.MaxY, api.MaxY-1)
	expectTable(t, "Times just above 1, below", got, e, api.Table{}, api.ErrBig)
	for _, f := range [][2]int{{1, 0}, {1, -1}, {api.MaxY + 1, 1}, {-api.MaxY - 1, 1}, {1, api.MaxY + 1}, {math.MinInt, math.MinInt}, {math.MaxInt, math.MaxInt}} {
		got, e = fix.Times(flat(0, 3, api.MaxY, api.MaxY), f[0], f[1])
		expectTable(t, fmt.Sprint("Times ", f), got, e, api.Table{}, api.ErrArg)
	}
}

func TestCut(t *testing.T) {
	r := rand.New(rand.NewSource(7))
	for _, x := range randomTables(r, 60) {
		first, last := ends(x)
		for i := range 12 {
			c := randomPlaces(r, x)
			switch i {
			case 0:
				c = span(first, last)
			case 1:
				c = span(c.Lo, c.Lo)
			case 2:
				c = span(first, c.Hi)
			case 3:
				c = span(c.Lo, last)
			}
			want := api.Table{}
			for n := range placesBetween(x, c.Lo, c.Hi) {
				v := wantAt(x, n)
				want.Points = append(want.Points, api.Point{X: n, Lo: v.Lo, Hi: v.Hi})
			}
			slices.SortFunc(want.Points, func(p, q api.Point) int { return p.X - q.X })
			got, e := fix.Cut(x, c.Lo, c.Hi)
			expectTable(t, fmt.Sprint("Cut ", x, c), got, e, want, api.OK)
			if c.Lo < c.Hi {
				got, e = fix.Cut(x, c.Hi, c.Lo)
				expectTable(t, fmt.Sprint("Cut back ", x, c), got, e, api.Table{}, api.ErrOut)
			}
		}
		for _, c := range [][2]int{{first - 1, last}, {first, last + 1}, {first - 1, first - 1}, {last + 1, last + 1}, {math.MinInt, math.MaxInt}, {math.MaxInt, math.MinInt}} {
			got, e := fix.Cut(x, c[0], c[1])
			expectTable(t, fmt.Sprint("Cut ", x, c), got, e, api.Table{}, api.ErrOut)
		}
	}
}

// TestTablesThatAreNotValid: whatever else is wrong, ErrTable comes first.
func TestTablesThatAreNotValid(t *testing.T) {
	good := exampleU()
	for _, bad := range badTables() {
		r, e := fix.At(bad, -1)
		expect(t, fmt.Sprint("At ", bad), r, e, api.Range{}, api.ErrTable)
		r, e = fix.Over(bad, span(1, 0))
		expect(t, fmt.Sprint("Over ", bad), r, e, api.Range{}, api.ErrTable)
		for name, f := range map[string]func(x, y api.Table) (api.Table, api.Errno){"Plus": fix.Plus, "Either": fix.Either} {
			for _, x := range [][2]api.Table{{bad, good}, {good, bad}, {bad, bad}, {bad, flat(api.MaxX, 1, 0, 0)}, {flat(api.MaxX, 1, 0, 0), bad}} {
				u, e := f(x[0], x[1])
				expectTable(t, fmt.Sprint(name, x), u, e, api.Table{}, api.ErrTable)
			}
		}
		u, e := fix.Times(bad, 1, 0)
		expectTable(t, fmt.Sprint("Times ", bad), u, e, api.Table{}, api.ErrTable)
		u, e = fix.Times(bad, 1, 1)
		expectTable(t, fmt.Sprint("Times ", bad), u, e, api.Table{}, api.ErrTable)
		u, e = fix.Cut(bad, 1, 0)
		expectTable(t, fmt.Sprint("Cut ", bad), u, e, api.Table{}, api.ErrTable)
		lo, hi, e := fix.Area(bad, 1, 0)
		expect(t, fmt.Sprint("Area ", bad), span(lo, hi), e, api.Range{}, api.ErrTable)
		l, e := fix.Where(bad, span(1, 0))
		expect(t, fmt.Sprint("Where ", bad), len(l), e, 0, api.ErrTable)
		l, e = fix.Above(bad, 0)
		expect(t, fmt.Sprint("Above ", bad), len(l), e, 0, api.ErrTable)
		s, e := fix.Print(bad)
		expect(t, fmt.Sprint("Print ", bad), s, e, "", api.ErrTable)
		if fix.Rising(bad) || fix.Falling(bad) {
			t.Errorf("Rising or Falling of %v, no valid table", bad)
		}
	}
}
