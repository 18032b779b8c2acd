package fix_test

import (
	"math"
	"math/big"
	"math/rand"
	"sort"
	"testing"

	"ullage/api"
)

// The oracle computes with exact fractions what the chapter describes, place by place.

func span(lo, hi int) api.Range { return api.Range{Lo: lo, Hi: hi} }

func tableOf(points ...[3]int) api.Table {
	var t api.Table
	for _, p := range points {
		t.Points = append(t.Points, api.Point{X: p[0], Lo: p[1], Hi: p[2]})
	}
	return t
}

// exampleT and exampleU are the tables of the chapter's examples.
func exampleT() api.Table { return tableOf([3]int{0, 0, 0}, [3]int{10, 5, 8}, [3]int{40, 20, 20}) }
func exampleU() api.Table { return tableOf([3]int{5, 1, 2}, [3]int{20, 1, 4}) }

func whole(n int) *big.Rat { return new(big.Rat).SetInt64(int64(n)) }

func down(r *big.Rat) int {
	return int(new(big.Int).Div(r.Num(), r.Denom()).Int64()) // Div rounds down, as denominators are above 0
}

func up(r *big.Rat) int { return -down(new(big.Rat).Neg(r)) }

// lineAt is the exact value of the lower or of the upper line.
func lineAt(t api.Table, x *big.Rat, value func(api.Point) int) *big.Rat {
	p := t.Points
	for i := range p {
		if x.Cmp(whole(p[i].X)) == 0 {
			return whole(value(p[i]))
		}
		if i > 0 && x.Cmp(whole(p[i].X)) < 0 {
			part := new(big.Rat).Sub(x, whole(p[i-1].X))
			part.Quo(part, whole(p[i].X-p[i-1].X))
			part.Mul(part, whole(value(p[i])-value(p[i-1])))
			return part.Add(part, whole(value(p[i-1])))
		}
	}
	panic("outside of the domain")
}

func lower(p api.Point) int { return p.Lo }
func upper(p api.Point) int { return p.Hi }

func wantAt(t api.Table, x int) api.Range {
	return span(down(lineAt(t, whole(x), lower)), up(lineAt(t, whole(x), upper)))
}

// wantOver asks the ends, and each point between them.
func wantOver(t api.Table, r api.Range) api.Range {
	all := wantAt(t, r.Lo)
	for x := range placesBetween(t, r.Lo, r.Hi) {
		all = hullOf(all, wantAt(t, x))
	}
	return all
}

// placesBetween has a, b, and the X between them.
func placesBetween(t api.Table, a, b int) map[int]bool {
	l := map[int]bool{a: true, b: true}
	for _, p := range t.Points {
		if a <= p.X && p.X <= b {
			l[p.X] = true
		}
	}
	return l
}

func hullOf(a, b api.Range) api.Range { return span(min(a.Lo, b.Lo), max(a.Hi, b.Hi)) }

// twiceArea sums, over the straight pieces from a to b, the width times both exact ends.
func twiceArea(t api.Table, a, b int, value func(api.Point) int) *big.Rat {
	var xs []int
	for x := range placesBetween(t, a, b) {
		xs = append(xs, x)
	}
	sort.Ints(xs)
	sum := new(big.Rat)
	for i := 1; i < len(xs); i++ {
		ends := new(big.Rat).Add(lineAt(t, whole(xs[i-1]), value), lineAt(t, whole(xs[i]), value))
		sum.Add(sum, ends.Mul(ends, whole(xs[i]-xs[i-1])))
	}
	return sum
}

// randomTable has up to most points, with places up to wide and values from -high to high.
func randomTable(r *rand.Rand, most, wide, high int) api.Table {
	xs := map[int]bool{}
	for n := 1 + r.Intn(most); n > 0; n-- {
		xs[r.Intn(wide+1)] = true
	}
	var t api.Table
	for x := range xs {
		t.Points = append(t.Points, api.Point{X: x})
	}
	sort.Slice(t.Points, func(i, j int) bool { return t.Points[i].X < t.Points[j].X })
	for i := range t.Points {
		a, b := r.Intn(2*high+1)-high, r.Intn(2*high+1)-high
		t.Points[i].Lo, t.Points[i].Hi = min(a, b), max(a, b)
	}
	return t
}

// randomTables has small tables, which often touch, and great ones, at the limits.
func randomTables(r *rand.Rand, many int) []api.Table {
	l := []api.Table{exampleT(), exampleU(), tableOf([3]int{0, 0, 0}), tableOf([3]int{api.MaxX, -api.MaxY, api.MaxY}),
		tableOf([3]int{0, -api.MaxY, api.MaxY}, [3]int{api.MaxX, -api.MaxY, api.MaxY}),
		tableOf([3]int{0, -api.MaxY, -api.MaxY}, [3]int{api.MaxX, api.MaxY, api.MaxY}),
		tableOf([3]int{0, api.MaxY, api.MaxY}, [3]int{api.MaxX - 1, -api.MaxY, -api.MaxY}, [3]int{api.MaxX, api.MaxY, api.MaxY})}
	for range many {
		l = append(l, randomTable(r, 5, 14, 6), randomTable(r, 20, 60, 40), randomTable(r, api.MaxPoints, api.MaxX, api.MaxY))
	}
	return l
}

// randomPlaces is a range of places of the domain.
func randomPlaces(r *rand.Rand, t api.Table) api.Range {
	first, last := ends(t)
	a, b := first+r.Intn(last-first+1), first+r.Intn(last-first+1)
	return span(min(a, b), max(a, b))
}

func ends(t api.Table) (first, last int) {
	return t.Points[0].X, t.Points[len(t.Points)-1].X
}

func isRange(r api.Range, all api.Range) bool {
	return all.Lo <= r.Lo && r.Lo <= r.Hi && r.Hi <= all.Hi
}

// badRanges are not valid.
func badRanges() []api.Range {
	return []api.Range{span(1, 0), span(-api.MaxWide-1, 0), span(0, api.MaxWide+1), span(math.MinInt, math.MaxInt), span(math.MaxInt, math.MinInt),
		span(math.MinInt, math.MinInt), span(math.MaxInt, math.MaxInt), span(api.MaxWide+1, api.MaxWide+2), span(-api.MaxWide-2, -api.MaxWide-1)}
}

// badTables are not valid.
func badTables() []api.Table {
	long := api.Table{}
	for i := range api.MaxPoints + 1 {
		long.Points = append(long.Points, api.Point{X: i})
	}
	return []api.Table{{}, {Points: []api.Point{}}, long,
		tableOf([3]int{-1, 0, 0}), tableOf([3]int{api.MaxX + 1, 0, 0}), tableOf([3]int{0, 0, 0}, [3]int{api.MaxX + 1, 0, 0}),
		tableOf([3]int{3, 0, 0}, [3]int{3, 0, 0}), tableOf([3]int{3, 0, 0}, [3]int{2, 0, 0}), tableOf([3]int{1, 0, 0}, [3]int{5, 0, 0}, [3]int{4, 0, 0}),
		tableOf([3]int{0, 1, 0}), tableOf([3]int{0, 0, 0}, [3]int{1, 1, 0}), tableOf([3]int{0, -api.MaxY - 1, 0}), tableOf([3]int{0, 0, api.MaxY + 1}),
		tableOf([3]int{math.MinInt, 0, 0}), tableOf([3]int{math.MaxInt, 0, 0}), tableOf([3]int{0, math.MinInt, math.MaxInt}),
		tableOf([3]int{0, math.MaxInt, math.MinInt}), tableOf([3]int{math.MinInt, 0, 0}, [3]int{math.MaxInt, 0, 0})}
}

// expect tells where a result is not the wanted one.
func expect[T comparable](t *testing.T, what string, got T, e api.Errno, want T, wantE api.Errno) {
	t.Helper()
	if got != want || e != wantE {
		t.Errorf("%s = %v, %d; expected %v, %d", what, got, e, want, wantE)
	}
}
