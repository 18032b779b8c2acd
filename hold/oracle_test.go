package hold_test

import (
	"math/big"
	"math/rand"
	"sort"
	"testing"

	"ullage/api"
	"ullage/fix"
)

// The oracle has what the chapter describes in its plainest form, place by place; it asks only fix.

func span(lo, hi int) api.Range { return api.Range{Lo: lo, Hi: hi} }

func one(n int) api.Range { return span(n, n) }

func tableOf(points ...[3]int) api.Table {
	var t api.Table
	for _, p := range points {
		t.Points = append(t.Points, api.Point{X: p[0], Lo: p[1], Hi: p[2]})
	}
	return t
}

// line is a straight line, exactly known, from 0 to 100.
func line(a, b int) api.Table { return tableOf([3]int{0, a, a}, [3]int{100, b, b}) }

// exampleH, exampleD and exampleP are the hold, the density and the fill of the chapter's examples.
func exampleH() api.Hold {
	return api.Hold{Id: 1, Volume: line(1000, 0), Moment: tableOf([3]int{0, 0, 0}, [3]int{50, 400, 500}, [3]int{100, 0, 0}), Height: line(300, 100),
		Trimmed: span(10, 20), Untrimmed: span(50, 60), Volume0: span(1000, 1010), Height0: span(300, 300)}
}
func exampleD() api.Range { return one(800) }
func exampleP() api.Fill {
	return api.Fill{Hold: 1, State: api.Partly, Ullage: span(40, 60), Density: exampleD()}
}

// exampleT is a tank, and exampleL one of its levels.
func exampleT() api.Tank {
	return api.Tank{Id: 2, Along: span(-3, 4), Volume: line(0, 2000), Surface: line(30, 50), Height: line(0, 90)}
}
func exampleL() api.Level {
	return api.Level{Tank: 2, Sounding: span(10, 20), Density: span(1000, 1025)}
}

// greatH and greatT are at all limits.
func greatH() api.Hold {
	x, y := api.MaxX, api.MaxY
	t := tableOf([3]int{0, y, y}, [3]int{x, 0, 0})
	return api.Hold{Id: api.MaxHolds, Along: span(-x, x), Volume: t, Moment: tableOf([3]int{0, 0, 0}, [3]int{x / 2, y, y}, [3]int{x, 0, 0}), Height: t,
		Trimmed: span(0, y), Untrimmed: span(y, y), Volume0: span(y, y), Height0: span(0, y)}
}
func greatT() api.Tank {
	x, y := api.MaxX, api.MaxY
	t := tableOf([3]int{0, 0, 0}, [3]int{x, y, y})
	return api.Tank{Id: api.MaxTanks, Along: span(-x, x), Volume: t, Surface: tableOf([3]int{0, y, y}, [3]int{x, y, y}), Height: t}
}

// wildH and wildT have wide tables whose points are not at the same places, and whose domain does not begin at 0.
func wildH() api.Hold {
	return api.Hold{Id: 3, Along: span(5, 9), Volume: tableOf([3]int{7, 90, 99}, [3]int{10, 90, 95}, [3]int{20, 3, 60}, [3]int{27, 0, 2}),
		Moment: tableOf([3]int{7, 0, 3}, [3]int{12, 4, 9}, [3]int{22, 1, 9}, [3]int{27, 0, 0}), Height: tableOf([3]int{7, 40, 44}, [3]int{27, 5, 30}),
		Trimmed: span(1, 2), Untrimmed: span(3, 5), Volume0: span(95, 102), Height0: span(41, 43)}
}
func wildT() api.Tank {
	return api.Tank{Id: 4, Volume: tableOf([3]int{5, 0, 0}, [3]int{9, 0, 40}, [3]int{21, 70, 71}), Surface: tableOf([3]int{5, 2, 9}, [3]int{13, 0, 30}, [3]int{21, 9, 9}), Height: tableOf([3]int{5, 0, 3}, [3]int{21, 30, 30})}
}

func ends(t api.Table) api.Range { return span(t.Points[0].X, t.Points[len(t.Points)-1].X) }

// randomXs are places of points, from a first one to a last one.
func randomXs(r *rand.Rand, all api.Range, most int) []int {
	xs := map[int]bool{all.Lo: true, all.Hi: true}
	for n := r.Intn(most - 1); n > 0; n-- {
		xs[all.Lo+r.Intn(all.Hi-all.Lo+1)] = true
	}
	var l []int
	for x := range xs {
		l = append(l, x)
	}
	sort.Ints(l)
	return l
}

// randomValues are numbers from 0 to high; every now and then, many of them are alike.
func randomValues(r *rand.Rand, many, high int) []int {
	if r.Intn(4) == 0 {
		high = min(high, 2)
	}
	var l []int
	for range many {
		l = append(l, r.Intn(high+1))
	}
	return l
}

// randomTable has values of any order; in the direction 1 they rise, in -1 they fall.
func randomTable(r *rand.Rand, all api.Range, most, high, direction int) api.Table {
	xs := randomXs(r, all, most)
	lows, highs := randomValues(r, len(xs), high), randomValues(r, len(xs), high)
	switch direction {
	case 1:
		sort.Ints(lows)
		sort.Ints(highs)
	case -1:
		sort.Sort(sort.Reverse(sort.IntSlice(lows)))
		sort.Sort(sort.Reverse(sort.IntSlice(highs)))
	}
	var t api.Table
	for i, x := range xs {
		t.Points = append(t.Points, api.Point{X: x, Lo: min(lows[i], highs[i]), Hi: max(lows[i], highs[i])})
	}
	return t
}

// randomSpan is a range of numbers from lo to hi.
func randomSpan(r *rand.Rand, lo, hi int) api.Range {
	a, b := lo+r.Intn(hi-lo+1), lo+r.Intn(hi-lo+1)
	if r.Intn(4) == 0 {
		b = a
	}
	return span(min(a, b), max(a, b))
}

func randomDensity(r *rand.Rand) api.Range { return randomSpan(r, api.MinDensity, api.MaxDensity) }

func randomHold(r *rand.Rand, wide, most, high int) api.Hold {
	first := r.Intn(3)
	all := span(first, first+1+r.Intn(wide))
	return api.Hold{Id: 1 + r.Intn(api.MaxHolds), Along: randomSpan(r, -9, 9),
		Volume: randomTable(r, all, most, high, -1), Moment: randomTable(r, all, most, high, 0), Height: randomTable(r, all, most, high, -1),
		Trimmed: randomSpan(r, 0, high), Untrimmed: randomSpan(r, 0, high), Volume0: randomSpan(r, 0, high), Height0: randomSpan(r, 0, high)}
}

func randomTank(r *rand.Rand, wide, most, high int) api.Tank {
	first := r.Intn(3)
	all := span(first, first+1+r.Intn(wide))
	return api.Tank{Id: 1 + r.Intn(api.MaxTanks), Along: randomSpan(r, -9, 9),
		Volume: randomTable(r, all, most, high, 1), Surface: randomTable(r, all, most, high, 0), Height: randomTable(r, all, most, high, 1)}
}

// someHolds are holds of all kinds, small ones and ones at the limits.
func someHolds(r *rand.Rand, many int) []api.Hold {
	l := []api.Hold{exampleH(), wildH(), greatH()}
	for range many {
		l = append(l, randomHold(r, 8, 4, 7), randomHold(r, 30, 7, 500), randomHold(r, api.MaxX-2, api.MaxPoints, api.MaxY))
	}
	return l
}

func someTanks(r *rand.Rand, many int) []api.Tank {
	l := []api.Tank{exampleT(), wildT(), greatT()}
	for range many {
		l = append(l, randomTank(r, 8, 4, 7), randomTank(r, 30, 7, 500), randomTank(r, api.MaxX-2, api.MaxPoints, api.MaxY))
	}
	return l
}

func randomFill(r *rand.Rand, h api.Hold) api.Fill {
	return fillIn(r, h, r.Intn(api.Overstowed+1))
}

// fillIn is a fill with a state.
func fillIn(r *rand.Rand, h api.Hold, state int) api.Fill {
	f := api.Fill{Hold: h.Id, State: state}
	if state != api.Empty {
		f.Density = randomDensity(r)
	}
	if state >= api.Partly {
		f.Ullage = randomSpan(r, ends(h.Volume).Lo, ends(h.Volume).Hi)
	}
	return f
}

func randomLevel(r *rand.Rand, t api.Tank) api.Level {
	all := ends(t.Volume)
	if r.Intn(5) == 0 {
		return api.Level{Tank: t.Id, Pressed: true, Sounding: one(all.Hi), Density: randomDensity(r)}
	}
	return api.Level{Tank: t.Id, Sounding: randomSpan(r, all.Lo, all.Hi), Density: randomDensity(r)}
}

// wantVolume, wantMoment and wantHeight are the table of the chapter's section on fills.
func wantVolume(h api.Hold, f api.Fill) api.Range {
	switch f.State {
	case api.Empty:
		return api.Range{}
	case api.Trimmed, api.Untrimmed:
		return h.Volume0
	}
	return overOf(h.Volume, f.Ullage)
}

func wantMoment(h api.Hold, f api.Fill) api.Range {
	switch f.State {
	case api.Trimmed:
		return h.Trimmed
	case api.Untrimmed:
		return h.Untrimmed
	case api.Partly:
		return overOf(h.Moment, f.Ullage)
	}
	return api.Range{}
}

func wantHeight(h api.Hold, f api.Fill) api.Range {
	switch f.State {
	case api.Empty:
		return api.Range{}
	case api.Trimmed, api.Untrimmed:
		return h.Height0
	}
	return overOf(h.Height, f.Ullage)
}

func overOf(t api.Table, r api.Range) api.Range {
	v, e := fix.Over(t, r)
	if e != api.OK {
		panic("not a range of places")
	}
	return v
}

func atOf(t api.Table, x int) api.Range { return overOf(t, one(x)) }

func whole(n int) *big.Rat { return new(big.Rat).SetInt64(int64(n)) }

func down(r *big.Rat) int {
	return int(new(big.Int).Div(r.Num(), r.Denom()).Int64()) // Div rounds down, as denominators are above 0
}

func up(r *big.Rat) int { return -down(new(big.Rat).Neg(r)) }

func times(a, b *big.Rat) *big.Rat { return new(big.Rat).Mul(a, b) }

// massOf is a volume times a density.
func massOf(v, d *big.Rat) *big.Rat { return times(times(v, d), big.NewRat(1, 1000)) }

// wantDense is a range by litre, times a density.
func wantDense(v, d api.Range) api.Range {
	return span(down(massOf(whole(v.Lo), whole(d.Lo))), up(massOf(whole(v.Hi), whole(d.Hi))))
}

// wantLitres asks each pair of ends.
func wantLitres(m, d api.Range) api.Range {
	var least, greatest *big.Rat
	for _, x := range []int{m.Lo, m.Hi} {
		for _, y := range []int{d.Lo, d.Hi} {
			q := times(big.NewRat(1000, int64(y)), whole(x))
			if least == nil || q.Cmp(least) < 0 {
				least = q
			}
			if greatest == nil || q.Cmp(greatest) > 0 {
				greatest = q
			}
		}
	}
	return span(down(least), up(greatest))
}

// wantInverse goes through all places. Tables over too many places are not asked.
func wantInverse(t api.Table, v api.Range, hold bool) (api.Range, bool) {
	all := ends(t)
	r := all
	for x := all.Lo; x <= all.Hi; x++ {
		at := atOf(t, x)
		ahead, behind := at.Lo > v.Hi, at.Hi < v.Lo
		if !hold {
			ahead, behind = behind, ahead
		}
		if ahead && x == all.Hi || behind && x == all.Lo {
			return api.Range{}, false
		}
		if ahead {
			r.Lo = x
		}
		if behind && x < r.Hi {
			r.Hi = x
		}
	}
	return r, true
}

// small reports whether a table's places can be gone through.
func small(t api.Table) bool { return ends(t).Hi <= 200 }

func hullOf(a, b api.Range) api.Range { return span(min(a.Lo, b.Lo), max(a.Hi, b.Hi)) }

func inside(a, b api.Range) bool { return b.Lo <= a.Lo && a.Lo <= a.Hi && a.Hi <= b.Hi }

func has(r api.Range, v *big.Rat) bool { return whole(r.Lo).Cmp(v) <= 0 && v.Cmp(whole(r.Hi)) <= 0 }

func expect[T comparable](t *testing.T, what string, got T, e api.Errno, want T, wantE api.Errno) {
	t.Helper()
	if got != want || e != wantE {
		t.Errorf("%s: got %v %d, want %v %d", what, got, e, want, wantE)
	}
}

// aMass is one mass, or two, of a size that may fit a volume.
func aMass(r *rand.Rand, high int) api.Range {
	most := 1 + high*2
	m := randomSpan(r, -most/4, most)
	if r.Intn(3) == 0 {
		m.Hi = m.Lo + r.Intn(3)
	}
	return m
}
