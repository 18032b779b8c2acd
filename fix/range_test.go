package fix_test

import (
	"fmt"
	"math"
	"math/big"
	"math/rand"
	"testing"

	"ullage/api"
	"ullage/fix"
)

// smallRanges are all ranges of small numbers.
func smallRanges(n int) []api.Range {
	var l []api.Range
	for lo := -n; lo <= n; lo++ {
		for hi := lo; hi <= n; hi++ {
			l = append(l, span(lo, hi))
		}
	}
	return l
}

// greatRanges are ranges of numbers near the limits, and some between.
func greatRanges(r *rand.Rand) []api.Range {
	ends := []int{-api.MaxWide, -api.MaxWide + 1, -api.MaxWide / 2, -1, 0, 1, 2, 31622776, 31622777, api.MaxY, api.MaxWide/2 + 1, api.MaxWide - 1, api.MaxWide}
	for range 5 {
		ends = append(ends, r.Intn(2*api.MaxWide)-api.MaxWide, r.Intn(2*40000000)-40000000)
	}
	var l []api.Range
	for _, a := range ends {
		for _, b := range ends {
			if a <= b {
				l = append(l, span(a, b))
			}
		}
	}
	return l
}

func TestCheckRange(t *testing.T) {
	for _, r := range []api.Range{{}, span(-api.MaxWide, api.MaxWide), span(api.MaxWide, api.MaxWide), span(-api.MaxWide, -api.MaxWide), span(-5, -5), span(3, 4)} {
		if e := fix.CheckRange(r); e != api.OK {
			t.Errorf("CheckRange(%v) = %d; expected 0", r, e)
		}
	}
	for _, r := range badRanges() {
		if e := fix.CheckRange(r); e != api.ErrRange {
			t.Errorf("CheckRange(%v) = %d; expected ErrRange", r, e)
		}
	}
}

func TestHasAndBefore(t *testing.T) {
	for _, a := range smallRanges(3) {
		for n := -5; n <= 5; n++ {
			if fix.Has(a, n) != (a.Lo <= n && n <= a.Hi) {
				t.Errorf("Has(%v, %d) = %v", a, n, fix.Has(a, n))
			}
		}
		for _, b := range smallRanges(3) {
			if fix.Before(a, b) != (a.Hi < b.Lo) {
				t.Errorf("Before(%v, %v) = %v", a, b, fix.Before(a, b))
			}
		}
	}
	for _, n := range []int{math.MinInt, -api.MaxWide - 1, api.MaxWide + 1, math.MaxInt} {
		if fix.Has(span(-api.MaxWide, api.MaxWide), n) {
			t.Errorf("the widest range has %d", n)
		}
	}
	for _, bad := range badRanges() {
		for _, n := range []int{math.MinInt, -api.MaxWide - 1, bad.Lo, 0, bad.Hi, math.MaxInt} {
			if fix.Has(bad, n) {
				t.Errorf("Has(%v, %d) of no valid range", bad, n)
			}
		}
		for _, r := range []api.Range{span(-api.MaxWide, -api.MaxWide), span(0, 0), span(api.MaxWide, api.MaxWide)} {
			if fix.Before(bad, r) || fix.Before(r, bad) {
				t.Errorf("Before of %v, no valid range, and %v", bad, r)
			}
		}
	}
}

// binary are the functions of two ranges, and what they do with two numbers.
var binary = map[string]struct {
	of func(a, b api.Range) (api.Range, api.Errno)
	do func(x, y *big.Int) *big.Int
}{
	"Add": {fix.Add, func(x, y *big.Int) *big.Int { return new(big.Int).Add(x, y) }},
	"Sub": {fix.Sub, func(x, y *big.Int) *big.Int { return new(big.Int).Sub(x, y) }},
	"Mul": {fix.Mul, func(x, y *big.Int) *big.Int { return new(big.Int).Mul(x, y) }},
}

// TestEachNumber tries each number of small ranges (P1.2).
func TestEachNumber(t *testing.T) {
	for name, f := range binary {
		for _, a := range smallRanges(4) {
			for _, b := range smallRanges(4) {
				want := span(math.MaxInt, math.MinInt)
				for x := a.Lo; x <= a.Hi; x++ {
					for y := b.Lo; y <= b.Hi; y++ {
						n := int(f.do(big.NewInt(int64(x)), big.NewInt(int64(y))).Int64())
						want = hullOf(want, span(n, n))
					}
				}
				got, e := f.of(a, b)
				expect(t, fmt.Sprint(name, a, b), got, e, want, api.OK)
			}
		}
	}
}

// TestGreatNumbers compares with numbers of any size: what is not valid is ErrBig.
func TestGreatNumbers(t *testing.T) {
	l := greatRanges(rand.New(rand.NewSource(1)))
	for name, f := range binary {
		for _, a := range l {
			for _, b := range l {
				lo, hi := corners(a, b, f.do)
				want, wantE := validOf(lo, hi)
				got, e := f.of(a, b)
				expect(t, fmt.Sprint(name, a, b), got, e, want, wantE)
			}
		}
	}
}

// corners are the least and the greatest result for ends of both ranges.
func corners(a, b api.Range, do func(x, y *big.Int) *big.Int) (lo, hi *big.Int) {
	for _, x := range []int{a.Lo, a.Hi} {
		for _, y := range []int{b.Lo, b.Hi} {
			n := do(big.NewInt(int64(x)), big.NewInt(int64(y)))
			if lo == nil || n.Cmp(lo) < 0 {
				lo = n
			}
			if hi == nil || n.Cmp(hi) > 0 {
				hi = n
			}
		}
	}
	return lo, hi
}

func validOf(lo, hi *big.Int) (api.Range, api.Errno) {
	most := big.NewInt(api.MaxWide)
	if lo.CmpAbs(most) > 0 || hi.CmpAbs(most) > 0 {
		return api.Range{}, api.ErrBig
	}
	return span(int(lo.Int64()), int(hi.Int64())), api.OK
}

func TestArithmeticExamples(t *testing.T) {
	r, e := fix.Mul(span(-2, 3), span(4, 5))
	expect(t, "Mul", r, e, span(-10, 15), api.OK)
	r, e = fix.Sub(span(1, 2), span(0, 5))
	expect(t, "Sub", r, e, span(-4, 2), api.OK)
	r, e = fix.Scale(span(-3, 7), 1, 2)
	expect(t, "Scale by a half", r, e, span(-2, 4), api.OK)
	r, e = fix.Scale(span(-3, 7), -1, 2)
	expect(t, "Scale by less a half", r, e, span(-4, 2), api.OK)
	r, e = fix.Meet(span(1, 4), span(5, 9))
	expect(t, "Meet", r, e, api.Range{}, api.ErrNone)
	r, e = fix.Hull(span(1, 4), span(8, 9))
	expect(t, "Hull", r, e, span(1, 9), api.OK)
}

func TestLimitsOfResults(t *testing.T) {
	most := span(api.MaxWide, api.MaxWide)
	least := span(-api.MaxWide, -api.MaxWide)
	for _, x := range []struct {
		name string
		of   func(a, b api.Range) (api.Range, api.Errno)
		a, b api.Range
		want api.Range
		e    api.Errno
	}{
		{"Add up to MaxWide", fix.Add, span(0, api.MaxWide-1), span(0, 1), span(0, api.MaxWide), api.OK},
		{"Add beyond", fix.Add, span(0, api.MaxWide), span(0, 1), api.Range{}, api.ErrBig},
		{"Add beyond below", fix.Add, span(-api.MaxWide, 0), span(-1, 0), api.Range{}, api.ErrBig},
		{"Sub down to less MaxWide", fix.Sub, span(1-api.MaxWide, 0), span(0, 1), span(-api.MaxWide, 0), api.OK},
		{"Sub beyond", fix.Sub, most, span(-1, 0), api.Range{}, api.ErrBig},
		{"Sub beyond below", fix.Sub, least, span(0, 1), api.Range{}, api.ErrBig},
		{"Mul up to MaxWide", fix.Mul, span(-1, 1000000), span(-2, 1000000000), span(-1000000000, api.MaxWide), api.OK},
		{"Mul beyond", fix.Mul, span(0, 1000001), span(0, 1000000000), api.Range{}, api.ErrBig},
		{"Mul beyond below", fix.Mul, span(-1000001, 0), span(0, 1000000000), api.Range{}, api.ErrBig},
		{"Mul of the greatest", fix.Mul, most, most, api.Range{}, api.ErrBig},
		{"Mul of both ends", fix.Mul, least, most, api.Range{}, api.ErrBig},
		{"Mul by 0", fix.Mul, span(-api.MaxWide, api.MaxWide), span(0, 0), span(0, 0), api.OK},
		{"Hull of the widest", fix.Hull, least, most, span(-api.MaxWide, api.MaxWide), api.OK},
		{"Meet of the widest", fix.Meet, span(-api.MaxWide, api.MaxWide), most, most, api.OK},
	} {
		r, e := x.of(x.a, x.b)
		expect(t, x.name, r, e, x.want, x.e)
	}
	r, e := fix.Neg(span(-api.MaxWide, api.MaxWide))
	expect(t, "Neg of the widest", r, e, span(-api.MaxWide, api.MaxWide), api.OK)
}

func TestNegHullMeet(t *testing.T) {
	for _, a := range smallRanges(4) {
		r, e := fix.Neg(a)
		expect(t, fmt.Sprint("Neg", a), r, e, span(-a.Hi, -a.Lo), api.OK)
		for _, b := range smallRanges(4) {
			r, e = fix.Hull(a, b)
			expect(t, fmt.Sprint("Hull", a, b), r, e, hullOf(a, b), api.OK)
			want, wantE := span(math.MaxInt, math.MinInt), api.OK
			for n := a.Lo; n <= a.Hi; n++ {
				if b.Lo <= n && n <= b.Hi {
					want = hullOf(want, span(n, n))
				}
			}
			if want.Lo > want.Hi {
				want, wantE = api.Range{}, api.ErrNone
			}
			r, e = fix.Meet(a, b)
			expect(t, fmt.Sprint("Meet", a, b), r, e, want, wantE)
		}
	}
}

// wantScale is the exact result, rounded outward.
func wantScale(r api.Range, n, d int) (api.Range, api.Errno) {
	times := func(x int) *big.Rat {
		p := new(big.Int).Mul(big.NewInt(int64(x)), big.NewInt(int64(n)))
		return new(big.Rat).SetFrac(p, big.NewInt(int64(d)))
	}
	a, b := times(r.Lo), times(r.Hi)
	if a.Cmp(b) > 0 {
		a, b = b, a
	}
	lo := new(big.Int).Div(a.Num(), a.Denom())
	hi := new(big.Int).Div(new(big.Int).Neg(b.Num()), b.Denom())
	return validOf(lo, hi.Neg(hi))
}

func TestScale(t *testing.T) {
	for _, r := range smallRanges(5) {
		for n := -4; n <= 4; n++ {
			for d := 1; d <= 4; d++ {
				got, e := fix.Scale(r, n, d)
				want, wantE := wantScale(r, n, d)
				expect(t, fmt.Sprint("Scale", r, n, d), got, e, want, wantE)
			}
		}
	}
	factors := []int{-api.MaxY, -api.MaxY + 1, -123456789, -2, -1, 0, 1, 2, 3, 999999937, api.MaxY - 1, api.MaxY}
	for _, r := range greatRanges(rand.New(rand.NewSource(2))) {
		for _, n := range factors {
			for _, d := range factors {
				if d >= 1 {
					got, e := fix.Scale(r, n, d)
					want, wantE := wantScale(r, n, d)
					expect(t, fmt.Sprint("Scale", r, n, d), got, e, want, wantE)
				}
			}
		}
	}
}

// fromZero has 0, n, and what lies between.
func fromZero(n int) api.Range { return span(min(n, 0), max(n, 0)) }

// TestProductsThatWrap has products that an int of 64 bits would make 0, or small.
func TestProductsThatWrap(t *testing.T) {
	for _, x := range [][2]int{{1 << 32, 1 << 32}, {1 << 40, 1 << 24}, {-1 << 32, 1 << 32}, {-1 << 33, -1 << 31}, {1<<32 + 1, 1 << 32}, {1 << 49, 1 << 49}} {
		r, e := fix.Mul(span(x[0], x[0]), span(x[1], x[1]))
		expect(t, fmt.Sprint("Mul of ", x), r, e, api.Range{}, api.ErrBig)
		r, e = fix.Mul(fromZero(x[0]), fromZero(x[1]))
		expect(t, fmt.Sprint("Mul from 0 of ", x), r, e, api.Range{}, api.ErrBig)
	}
	for _, x := range []struct{ n, factor, d int }{{1 << 45, 1 << 29, 1}, {-1 << 45, 1 << 29, 1}, {1 << 45, -1 << 29, 1}, {1 << 49, 1 << 16, 2}, {1 << 49, 1 << 28, 1 << 13}} {
		r, e := fix.Scale(span(x.n, x.n), x.factor, x.d)
		expect(t, fmt.Sprint("Scale of ", x), r, e, api.Range{}, api.ErrBig)
		r, e = fix.Scale(fromZero(x.n), x.factor, x.d)
		expect(t, fmt.Sprint("Scale from 0 of ", x), r, e, api.Range{}, api.ErrBig)
	}
}

// TestScaleAtLimit has results on both sides of MaxWide, before and behind rounding.
func TestScaleAtLimit(t *testing.T) {
	for _, d := range []int{2, 3, 7, 999999937, api.MaxY} {
		for n := d - 2; n <= d+2; n++ {
			for _, s := range []int{-1, 1} {
				x := new(big.Int).Div(new(big.Int).Mul(big.NewInt(api.MaxWide), big.NewInt(int64(d))), big.NewInt(int64(max(n, 1))))
				for off := -2; off <= 2; off++ {
					v := min(int(x.Int64())+off, api.MaxWide)
					for _, r := range []api.Range{span(v, v), span(-v, -v), span(-v, v)} {
						if n*s < -api.MaxY || n*s > api.MaxY {
							continue
						}
						got, e := fix.Scale(r, n*s, d)
						want, wantE := wantScale(r, n*s, d)
						expect(t, fmt.Sprint("Scale", r, n*s, d), got, e, want, wantE)
					}
				}
			}
		}
	}
}

func TestScaleArguments(t *testing.T) {
	for _, x := range []struct{ n, d int }{{api.MaxY + 1, 1}, {-api.MaxY - 1, 1}, {1, 0}, {1, -1}, {1, api.MaxY + 1}, {math.MinInt, 1}, {math.MaxInt, 1}, {1, math.MinInt}, {1, math.MaxInt}, {0, 0}} {
		r, e := fix.Scale(span(api.MaxWide, api.MaxWide), x.n, x.d)
		expect(t, fmt.Sprint("Scale by ", x), r, e, api.Range{}, api.ErrArg)
		r, e = fix.Scale(span(1, 0), x.n, x.d)
		expect(t, fmt.Sprint("Scale of no range by ", x), r, e, api.Range{}, api.ErrRange)
	}
	r, e := fix.Scale(span(1, 1), api.MaxY, api.MaxY)
	expect(t, "Scale by the greatest numbers", r, e, span(1, 1), api.OK)
	r, e = fix.Scale(span(1, 1), -api.MaxY, 1)
	expect(t, "Scale by the least number", r, e, span(-api.MaxY, -api.MaxY), api.OK)
}

func TestRangesThatAreNotValid(t *testing.T) {
	good := span(0, 1)
	for _, bad := range badRanges() {
		for name, f := range map[string]func(a, b api.Range) (api.Range, api.Errno){"Add": fix.Add, "Sub": fix.Sub, "Mul": fix.Mul, "Hull": fix.Hull, "Meet": fix.Meet} {
			for _, x := range [][2]api.Range{{bad, good}, {good, bad}, {bad, bad}, {bad, span(api.MaxWide, api.MaxWide)}} {
				r, e := f(x[0], x[1])
				expect(t, fmt.Sprint(name, x), r, e, api.Range{}, api.ErrRange)
			}
		}
		r, e := fix.Neg(bad)
		expect(t, fmt.Sprint("Neg", bad), r, e, api.Range{}, api.ErrRange)
		r, e = fix.Scale(bad, 1, 1)
		expect(t, fmt.Sprint("Scale", bad), r, e, api.Range{}, api.ErrRange)
	}
}
