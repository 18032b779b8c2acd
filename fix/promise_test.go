package fix_test

import (
	"fmt"
	"math/big"
	"math/rand"
	"slices"
	"testing"

	"ullage/api"
	"ullage/fix"
)

// curve is a curve within a table: at each place it is so many hundredths of the way from the lower line to the upper one.
type curve struct {
	t    api.Table
	part map[string]int
	r    *rand.Rand
}

func newCurve(r *rand.Rand, t api.Table) *curve { return &curve{t, map[string]int{}, r} }

// at is the value at a place, the same one each time.
func (c *curve) at(x *big.Rat) *big.Rat {
	key := x.RatString()
	if _, ok := c.part[key]; !ok {
		c.part[key] = []int{0, 100, c.r.Intn(101)}[c.r.Intn(3)]
	}
	lo, hi := lineAt(c.t, x, lower), lineAt(c.t, x, upper)
	hi.Sub(hi, lo)
	hi.Mul(hi, big.NewRat(int64(c.part[key]), 100))
	return hi.Add(hi, lo)
}

// randomPlace is a place from a to b, often not a whole one.
func randomPlace(r *rand.Rand, a, b int) *big.Rat {
	d := 1 + r.Intn(4)
	return big.NewRat(int64(a*d+r.Intn((b-a)*d+1)), int64(d))
}

func inRange(v *big.Rat, r api.Range) bool { return v.Cmp(whole(r.Lo)) >= 0 && v.Cmp(whole(r.Hi)) <= 0 }

// inTable reports whether a value at a place lies between the lines.
func inTable(v, x *big.Rat, t api.Table) bool {
	return v.Cmp(lineAt(t, x, lower)) >= 0 && v.Cmp(lineAt(t, x, upper)) <= 0
}

// TestQuantitiesLieWithin is P1.2 for numbers of great ranges.
func TestQuantitiesLieWithin(t *testing.T) {
	r := rand.New(rand.NewSource(12))
	pick := func(a api.Range) int { return a.Lo + r.Intn(a.Hi-a.Lo+1) }
	for range 3000 {
		width := []int{10, 1000, 10000000}[r.Intn(3)]
		lo, lo2 := r.Intn(2*width+1)-width, r.Intn(2*width+1)-width
		a, b := span(lo, lo+r.Intn(width)), span(lo2, lo2+r.Intn(width))
		x, y := pick(a), pick(b)
		n, d := r.Intn(2001)-1000, 1+r.Intn(50)
		sum, _ := fix.Add(a, b)
		difference, _ := fix.Sub(a, b)
		negative, _ := fix.Neg(a)
		product, _ := fix.Mul(a, b)
		scaled, _ := fix.Scale(a, n, d)
		hull, _ := fix.Hull(a, b)
		if !fix.Has(sum, x+y) || !fix.Has(difference, x-y) || !fix.Has(negative, -x) || !fix.Has(product, x*y) || !fix.Has(hull, x) || !fix.Has(hull, y) {
			t.Fatalf("%d of %v and %d of %v are beyond a result", x, a, y, b)
		}
		if !inRange(new(big.Rat).Mul(whole(x), big.NewRat(int64(n), int64(d))), scaled) {
			t.Fatalf("%d / %d times %d is not within %v", n, d, x, scaled)
		}
		both, e := fix.Meet(a, b)
		if fix.Has(a, y) && (e != api.OK || !fix.Has(both, y)) {
			t.Fatalf("%d of %v and %v is not within %v", y, a, b, both)
		}
		if fix.Before(a, b) && x >= y {
			t.Fatalf("%v is told to be ahead of %v", a, b)
		}
	}
}

// TestCurvesLieWithin is P1.3 for At, Over and Cut.
func TestCurvesLieWithin(t *testing.T) {
	r := rand.New(rand.NewSource(13))
	for _, x := range randomTables(r, 60) {
		c := newCurve(r, x)
		for range 10 {
			places := randomPlaces(r, x)
			over, _ := fix.Over(x, places)
			cut, _ := fix.Cut(x, places.Lo, places.Hi)
			p := randomPlace(r, places.Lo, places.Hi)
			v := c.at(p)
			if !inRange(v, over) {
				t.Errorf("the value %v at %v is not within Over %v of %v", v, p, over, x)
			}
			if !inTable(v, p, cut) {
				t.Errorf("the value %v at %v is not within Cut %v of %v", v, p, cut, x)
			}
			at, _ := fix.At(x, places.Lo)
			if v := c.at(whole(places.Lo)); !inRange(v, at) {
				t.Errorf("the value %v at %d is not within At %v of %v", v, places.Lo, at, x)
			}
		}
	}
}

// TestCombinedCurvesLieWithin is P1.3 for Plus, Either and Times.
func TestCombinedCurvesLieWithin(t *testing.T) {
	r := rand.New(rand.NewSource(14))
	tried := 0
	for range 400 {
		x, y := randomTable(r, 6, 20, 9), randomTable(r, 6, 20, 9)
		n, d := r.Intn(41)-20, 1+r.Intn(9)
		plus, e := fix.Plus(x, y)
		either, _ := fix.Either(x, y)
		times, _ := fix.Times(x, n, d)
		c, k := newCurve(r, x), newCurve(r, y)
		for range 8 {
			first, last := ends(x)
			p := randomPlace(r, first, last)
			if v := new(big.Rat).Mul(c.at(p), big.NewRat(int64(n), int64(d))); !inTable(v, p, times) {
				t.Errorf("%v at %v is not within %v, %d / %d times %v", v, p, times, n, d, x)
			}
			if e != api.OK {
				continue
			}
			tried++
			p = randomPlace(r, plus.Points[0].X, plus.Points[len(plus.Points)-1].X)
			v, w := c.at(p), k.at(p)
			if sum := new(big.Rat).Add(v, w); !inTable(sum, p, plus) {
				t.Errorf("%v at %v is not within Plus %v of %v and %v", sum, p, plus, x, y)
			}
			if !inTable(v, p, either) || !inTable(w, p, either) {
				t.Errorf("%v or %v at %v is not within Either %v of %v and %v", v, w, p, either, x, y)
			}
		}
	}
	if tried == 0 {
		t.Error("no tables had places in common")
	}
}

// curveByNumbers is a table with Lo = Hi whose values are taken of t.
func curveByNumbers(r *rand.Rand, t api.Table) api.Table {
	var c api.Table
	for _, p := range t.Points {
		n := p.Lo + r.Intn(p.Hi-p.Lo+1)
		c.Points = append(c.Points, api.Point{X: p.X, Lo: n, Hi: n})
	}
	return c
}

func numbersOf(c api.Table) []int {
	var l []int
	for _, p := range c.Points {
		l = append(l, p.Lo)
	}
	return l
}

// TestAreasOfCurves is P1.4.
func TestAreasOfCurves(t *testing.T) {
	r := rand.New(rand.NewSource(15))
	for _, x := range randomTables(r, 60) {
		c := curveByNumbers(r, x)
		if e := fix.CheckCurve(x, numbersOf(c)); e != api.OK {
			t.Fatalf("CheckCurve(%v, %v) = %d", x, numbersOf(c), e)
		}
		for range 5 {
			places := randomPlaces(r, x)
			lo, hi, _ := fix.Area(x, places.Lo, places.Hi)
			exact := twiceArea(c, places.Lo, places.Hi, lower)
			if !inRange(exact, span(lo, hi)) {
				t.Errorf("the area %v of %v is not within %d and %d of %v", exact, c, lo, hi, x)
			}
			lo, hi, _ = fix.Area(c, places.Lo, places.Hi)
			if lo != down(exact) || hi != up(exact) {
				t.Errorf("the area of the curve %v is %d, %d; expected %v", c, lo, hi, exact)
			}
		}
	}
}

// TestPlacesOfCurves is P1.5.
func TestPlacesOfCurves(t *testing.T) {
	r := rand.New(rand.NewSource(16))
	has := func(l []api.Range, x int) bool {
		return slices.ContainsFunc(l, func(run api.Range) bool { return run.Lo <= x && x <= run.Hi })
	}
	for range 300 {
		x := randomTable(r, 6, 20, 9)
		c := newCurve(r, x)
		lo := r.Intn(19) - 9
		values := span(lo, lo+r.Intn(4))
		where, _ := fix.Where(x, values)
		above, _ := fix.Above(x, lo)
		first, last := ends(x)
		for n := first; n <= last; n++ {
			v := c.at(whole(n))
			if inRange(v, values) && !has(where, n) {
				t.Errorf("the value %v at %d of %v is within %v; Where has %v", v, n, x, values, where)
			}
			if v.Cmp(whole(lo)) < 0 && has(above, n) {
				t.Errorf("the value %v at %d of %v is less than %d; Above has %v", v, n, x, lo, above)
			}
		}
	}
}

// TestOrderOfCurves is the first part of P1.6.
func TestOrderOfCurves(t *testing.T) {
	r := rand.New(rand.NewSource(17))
	rises, falls := 0, 0
	for range 4000 {
		x := randomTable(r, 3, 9, 4)
		c := numbersOf(curveByNumbers(r, x))
		if fix.Rising(x) {
			rises++
			if !slices.IsSorted(c) {
				t.Errorf("%v falls, but %v is told to be rising", c, x)
			}
		}
		if fix.Falling(x) {
			falls++
			slices.Reverse(c)
			if !slices.IsSorted(c) {
				t.Errorf("%v backward falls, but %v is told to be falling", c, x)
			}
		}
	}
	if rises == 0 || falls == 0 {
		t.Error("no table was rising, or none was falling")
	}
}

// narrowed has ranges within those of a table, at the same places.
func narrowed(r *rand.Rand, t api.Table) api.Table {
	var u api.Table
	for _, p := range t.Points {
		a, b := p.Lo+r.Intn(p.Hi-p.Lo+1), p.Lo+r.Intn(p.Hi-p.Lo+1)
		u.Points = append(u.Points, api.Point{X: p.X, Lo: min(a, b), Hi: max(a, b)})
	}
	return u
}

func tableWithin(u, t api.Table) bool {
	return slices.EqualFunc(u.Points, t.Points, func(p, q api.Point) bool {
		return p.X == q.X && isRange(span(p.Lo, p.Hi), span(q.Lo, q.Hi))
	})
}

// TestNarrowerTables is the second part of P1.6.
func TestNarrowerTables(t *testing.T) {
	r := rand.New(rand.NewSource(18))
	for range 200 {
		x, y := randomTable(r, 6, 20, 30), randomTable(r, 6, 20, 30)
		u, v := narrowed(r, x), narrowed(r, y)
		places := randomPlaces(r, x)
		n, d := r.Intn(41)-20, 1+r.Intn(9)
		for name, of := range map[string]func(t, other api.Table) (api.Table, api.Errno){
			"Plus":   fix.Plus,
			"Either": fix.Either,
			"Times":  func(t, _ api.Table) (api.Table, api.Errno) { return fix.Times(t, n, d) },
			"Cut":    func(t, _ api.Table) (api.Table, api.Errno) { return fix.Cut(t, places.Lo, places.Hi) },
			"At": func(t, _ api.Table) (api.Table, api.Errno) {
				at, e := fix.At(t, places.Lo)
				return flat(0, 1, at.Lo, at.Hi), e
			},
			"Over": func(t, _ api.Table) (api.Table, api.Errno) {
				over, e := fix.Over(t, places)
				return flat(0, 1, over.Lo, over.Hi), e
			},
			"Area": func(t, _ api.Table) (api.Table, api.Errno) {
				lo, hi, e := fix.Area(t, places.Lo, places.Hi)
				return flat(0, 1, lo, hi), e
			},
		} {
			wide, e := of(x, y)
			narrow, e2 := of(u, v)
			if e != e2 || !tableWithin(narrow, wide) {
				t.Errorf("%s of %v and %v is %v, %d, but of %v and %v it is %v, %d", name, x, y, wide, e, u, v, narrow, e2)
			}
		}
	}
}

// spare returns a table with more memory than it uses, as appending to it would reach.
func spare(t api.Table) api.Table {
	l := append(make([]api.Point, 0, 100), t.Points...)
	for i := len(l); i < cap(l); i++ {
		l[:cap(l)][i] = api.Point{X: -7, Lo: -7, Hi: -7}
	}
	return api.Table{Points: l}
}

// TestMemory is R4: arguments stay as they are, and no result shares memory with one.
func TestMemory(t *testing.T) {
	for name, of := range map[string]func(x, y api.Table) api.Table{
		"Plus":   func(x, y api.Table) api.Table { u, _ := fix.Plus(x, y); return u },
		"Either": func(x, y api.Table) api.Table { u, _ := fix.Either(x, y); return u },
		"Times":  func(x, y api.Table) api.Table { u, _ := fix.Times(x, 1, 1); return u },
		"Cut":    func(x, y api.Table) api.Table { u, _ := fix.Cut(x, 0, 40); return u },
		"places": func(x, y api.Table) api.Table {
			fix.CheckTable(x)
			fix.At(x, 5)
			fix.Over(x, span(0, 40))
			fix.Where(x, span(0, 4))
			fix.Above(x, 4)
			fix.Area(x, 0, 40)
			fix.Print(x)
			fix.Rising(x)
			fix.Falling(x)
			return api.Table{}
		},
	} {
		x, y := spare(exampleT()), spare(exampleU())
		u := of(x, y)
		for i := range u.Points {
			u.Points[i] = api.Point{X: -1, Lo: -1, Hi: -1}
		}
		if !slices.Equal(x.Points[:cap(x.Points)], spare(exampleT()).Points[:cap(x.Points)]) || !slices.Equal(y.Points[:cap(y.Points)], spare(exampleU()).Points[:cap(y.Points)]) {
			t.Errorf("%s changed an argument, or shares its memory", name)
		}
	}
	c := []int{0, 6, 20}
	fix.CheckCurve(exampleT(), c)
	if !slices.Equal(c, []int{0, 6, 20}) {
		t.Error("CheckCurve changed its argument")
	}
	first, _ := fix.Where(exampleT(), span(6, 6))
	first[0] = api.Range{}
	if again, _ := fix.Where(exampleT(), span(6, 6)); !slices.Equal(again, []api.Range{span(7, 13)}) {
		t.Errorf("Where = %v, when an earlier result was changed", again)
	}
	parsed, _, _ := fix.Parse("1 2 3")
	parsed.Points[0] = api.Point{}
	if again, _, _ := fix.Parse("1 2 3"); !slices.Equal(again.Points, flat(1, 1, 2, 3).Points) {
		t.Errorf("Parse = %v, when an earlier result was changed", again)
	}
}

// TestNothingPanics is P1: all functions, for values at and beyond all limits.
func TestNothingPanics(t *testing.T) {
	ranges := append(badRanges(), span(0, 0), span(-api.MaxWide, api.MaxWide), span(api.MaxWide, api.MaxWide), span(0, 40), span(5, 6))
	tables := append(badTables(), randomTables(rand.New(rand.NewSource(19)), 1)...)
	var numbers []int
	for _, r := range ranges {
		numbers = append(numbers, r.Lo, r.Hi)
	}
	try := func(what string, of func()) {
		defer func() {
			if v := recover(); v != nil {
				t.Errorf("%s panics: %v", what, v)
			}
		}()
		of()
	}
	for _, a := range ranges {
		for _, b := range ranges {
			try(fmt.Sprint("ranges ", a, b), func() {
				fix.Before(a, b)
				fix.Add(a, b)
				fix.Sub(a, b)
				fix.Mul(a, b)
				fix.Hull(a, b)
				fix.Meet(a, b)
			})
		}
		for _, n := range numbers {
			for _, d := range numbers {
				try(fmt.Sprint("Scale ", a, n, d), func() { fix.Scale(a, n, d) })
			}
			try(fmt.Sprint("Has ", a, n), func() { fix.Has(a, n) })
		}
	}
	for _, x := range tables {
		for _, r := range ranges {
			try(fmt.Sprint("places ", x, r), func() {
				fix.Over(x, r)
				fix.Where(x, r)
				fix.At(x, r.Lo)
				fix.Above(x, r.Hi)
				fix.Cut(x, r.Lo, r.Hi)
				fix.Area(x, r.Lo, r.Hi)
				fix.Times(x, r.Lo, r.Hi)
				fix.CheckCurve(x, []int{r.Lo, r.Hi, 0})
			})
		}
		for _, y := range tables {
			try(fmt.Sprint("tables ", x, y), func() {
				fix.Plus(x, y)
				fix.Either(x, y)
			})
		}
	}
}
