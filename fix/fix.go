// Package fix is layer 1: it computes with ranges of whole numbers and with tables that bound curves (see shared/doc/01-fix.md).
package fix

import "ullage/api"

// around has the numbers from -n to n.
func around(n int) api.Range { return api.Range{Lo: -n, Hi: n} }

// common returns what both ranges have; its Lo is above its Hi if that is nothing.
func common(a, b api.Range) api.Range {
	return api.Range{Lo: max(a.Lo, b.Lo), Hi: min(a.Hi, b.Hi)}
}

// within reports whether r has numbers, all of which are numbers of all.
func within(r, all api.Range) bool { return r.Lo <= r.Hi && common(r, all) == r }

// CheckRange reports whether a range is valid.
func CheckRange(r api.Range) api.Errno {
	if !within(r, around(api.MaxWide)) {
		return api.ErrRange
	}
	return api.OK
}

// bothValid reports whether two ranges are valid.
func bothValid(a, b api.Range) bool {
	return CheckRange(a) == api.OK && CheckRange(b) == api.OK
}

// Has reports whether a range has a number.
func Has(r api.Range, n int) bool {
	return CheckRange(r) == api.OK && r.Lo <= n && n <= r.Hi
}

// Before reports whether each number of a is less than each one of b.
func Before(a, b api.Range) bool { return bothValid(a, b) && a.Hi < b.Lo }

// unlessBig returns a result, or ErrBig if it is not valid.
func unlessBig(r api.Range) (api.Range, api.Errno) {
	if CheckRange(r) != api.OK {
		return api.Range{}, api.ErrBig
	}
	return r, api.OK
}

// Add is the range of sums.
func Add(a, b api.Range) (api.Range, api.Errno) {
	if !bothValid(a, b) {
		return api.Range{}, api.ErrRange
	}
	return unlessBig(api.Range{Lo: a.Lo + b.Lo, Hi: a.Hi + b.Hi})
}

// Sub is the range of differences.
func Sub(a, b api.Range) (api.Range, api.Errno) {
	if !bothValid(a, b) {
		return api.Range{}, api.ErrRange
	}
	return unlessBig(api.Range{Lo: a.Lo - b.Hi, Hi: a.Hi - b.Lo})
}

// Neg is the range of the negatives.
func Neg(r api.Range) (api.Range, api.Errno) {
	if CheckRange(r) != api.OK {
		return api.Range{}, api.ErrRange
	}
	return api.Range{Lo: -r.Hi, Hi: -r.Lo}, api.OK
}

// size is n without its sign.
func size(n int) int { return max(n, -n) }

// product returns a times b; false if it is beyond twice MaxWide. (Beyond MaxWide is not enough: what scaled adds can bring it back.)
func product(a, b int) (int, bool) {
	if a != 0 && size(b) > 2*api.MaxWide/size(a) {
		return 0, false
	}
	return a * b, true
}

// Mul is the least range that has all products.
func Mul(a, b api.Range) (api.Range, api.Errno) {
	if !bothValid(a, b) {
		return api.Range{}, api.ErrRange
	}
	// A product is least, and greatest, at ends of both ranges.
	seen := &growing{}
	for _, x := range [...]int{a.Lo, a.Hi} {
		for _, y := range [...]int{b.Lo, b.Hi} {
			n, ok := product(x, y)
			if !ok {
				return api.Range{}, api.ErrBig
			}
			seen.take(api.Range{Lo: n, Hi: n})
		}
	}
	return unlessBig(seen.all)
}

// floor is n / d rounded down; d is above 0.
func floor(n, d int) int {
	q := n / d
	if n%d < 0 {
		q--
	}
	return q
}

// scaled is x times n / d, rounded down; false if it is far beyond MaxWide. It divides x first, because x times n need not fit an int.
func scaled(x, n, d int) (int, bool) {
	q := floor(x, d)
	whole, ok := product(q, n)
	if !ok {
		return 0, false
	}
	return whole + floor((x-q*d)*n, d), true
}

// Scale is the least range that has n / d times each number.
func Scale(r api.Range, n, d int) (api.Range, api.Errno) {
	if CheckRange(r) != api.OK {
		return api.Range{}, api.ErrRange
	}
	if !Has(around(api.MaxY), n) || d < 1 || d > api.MaxY {
		return api.Range{}, api.ErrArg
	}
	if n < 0 {
		r, n = api.Range{Lo: -r.Hi, Hi: -r.Lo}, -n
	}
	lo, fits := scaled(r.Lo, n, d)
	hi, fit := scaled(-r.Hi, n, d)
	if !fits || !fit {
		return api.Range{}, api.ErrBig
	}
	return unlessBig(api.Range{Lo: lo, Hi: -hi})
}

// hull is the least range that has both.
func hull(a, b api.Range) api.Range {
	return api.Range{Lo: min(a.Lo, b.Lo), Hi: max(a.Hi, b.Hi)}
}

// Hull is the least range that has both.
func Hull(a, b api.Range) (api.Range, api.Errno) {
	if !bothValid(a, b) {
		return api.Range{}, api.ErrRange
	}
	return hull(a, b), api.OK
}

// Meet is the range that both have.
func Meet(a, b api.Range) (api.Range, api.Errno) {
	if !bothValid(a, b) {
		return api.Range{}, api.ErrRange
	}
	r := common(a, b)
	if r.Lo > r.Hi {
		return api.Range{}, api.ErrNone
	}
	return r, api.OK
}

// growing is a range that is under way: the hull of what it has taken.
type growing struct {
	all  api.Range
	some bool
}

// take makes the range have r, too.
func (g *growing) take(r api.Range) {
	if g.some {
		r = hull(g.all, r)
	}
	g.all, g.some = r, true
}
