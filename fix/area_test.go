package fix_test

import (
	"fmt"
	"math"
	"math/rand"
	"testing"

	"ullage/api"
	"ullage/fix"
)

func expectArea(t *testing.T, x api.Table, a, b int, want api.Range) {
	t.Helper()
	lo, hi, e := fix.Area(x, a, b)
	expect(t, fmt.Sprint("Area ", x, a, b), span(lo, hi), e, want, api.OK)
}

func wantArea(x api.Table, a, b int) api.Range {
	return span(down(twiceArea(x, a, b, lower)), up(twiceArea(x, a, b, upper)))
}

func TestAreaExamples(t *testing.T) {
	expectArea(t, exampleT(), 0, 10, span(50, 80))
	expectArea(t, exampleT(), 5, 11, span(48, 77))
}

func TestAreas(t *testing.T) {
	r := rand.New(rand.NewSource(9))
	for _, x := range randomTables(r, 150) {
		first, last := ends(x)
		expectArea(t, x, first, last, wantArea(x, first, last))
		expectArea(t, x, first, first, api.Range{})
		expectArea(t, x, last, last, api.Range{})
		for range 12 {
			c := randomPlaces(r, x)
			expectArea(t, x, c.Lo, c.Hi, wantArea(x, c.Lo, c.Hi))
		}
	}
}

// TestAreaIsRoundedOnce: pieces cut at both ends, whose fractions come together.
func TestAreaIsRoundedOnce(t *testing.T) {
	for _, d := range []int{2, 3, 7, 11} {
		for dy := -12; dy <= 12; dy++ {
			x := tableOf([3]int{0, 1, 1}, [3]int{d, 1 + dy, 1 + dy}, [3]int{d + 1, 1 + dy, 2 + dy}, [3]int{3*d + 2, 1, 2})
			for a := 0; a <= 3*d+2; a++ {
				for b := a; b <= 3*d+2; b++ {
					expectArea(t, x, a, b, wantArea(x, a, b))
				}
			}
		}
	}
}

func TestGreatAreas(t *testing.T) {
	box := tableOf([3]int{0, -api.MaxY, api.MaxY}, [3]int{api.MaxX, -api.MaxY, api.MaxY})
	expectArea(t, box, 0, api.MaxX, span(-2*api.MaxX*api.MaxY, 2*api.MaxX*api.MaxY))
	prime := 999983
	steep := tableOf([3]int{0, -api.MaxY, -api.MaxY + 1}, [3]int{prime, api.MaxY - 1, api.MaxY}, [3]int{api.MaxX, -api.MaxY, api.MaxY})
	for _, c := range [][2]int{{0, prime}, {1, prime}, {1, prime - 1}, {499991, 499992}, {1, api.MaxX - 1}, {prime - 1, prime + 1}, {999982, 999984}} {
		expectArea(t, steep, c[0], c[1], wantArea(steep, c[0], c[1]))
	}
	// Pieces that turn from up to down, both cut, with great widths that have no common divisor.
	peak := tableOf([3]int{0, -api.MaxY, -api.MaxY}, [3]int{499979, api.MaxY, api.MaxY}, [3]int{999958, -api.MaxY, -api.MaxY + 7})
	for _, c := range [][2]int{{1, 999957}, {123456, 654321}, {499978, 499980}} {
		expectArea(t, peak, c[0], c[1], wantArea(peak, c[0], c[1]))
	}
}

func TestAreaOutside(t *testing.T) {
	for _, c := range [][2]int{{11, 5}, {-1, 5}, {0, 41}, {-1, -1}, {41, 41}, {math.MinInt, math.MaxInt}, {math.MaxInt, math.MinInt}, {0, math.MaxInt}, {math.MinInt, 0}} {
		lo, hi, e := fix.Area(exampleT(), c[0], c[1])
		expect(t, fmt.Sprint("Area ", c), span(lo, hi), e, api.Range{}, api.ErrOut)
	}
}

// TestAreasAddUp is P1.4's last part.
func TestAreasAddUp(t *testing.T) {
	r := rand.New(rand.NewSource(10))
	rounded := false
	for _, x := range randomTables(r, 100) {
		for range 10 {
			c := randomPlaces(r, x)
			b := c.Lo + r.Intn(c.Hi-c.Lo+1)
			lo, hi, _ := fix.Area(x, c.Lo, c.Hi)
			lo1, hi1, _ := fix.Area(x, c.Lo, b)
			lo2, hi2, _ := fix.Area(x, b, c.Hi)
			if lo < lo1+lo2 || lo > lo1+lo2+1 || hi > hi1+hi2 || hi < hi1+hi2-1 {
				t.Errorf("Area of %v from %d to %d is %d, %d; the parts up to %d have %d, %d and %d, %d", x, c.Lo, c.Hi, lo, hi, b, lo1, hi1, lo2, hi2)
			}
			rounded = rounded || lo == lo1+lo2+1
		}
	}
	if !rounded {
		t.Error("no area was tried that is rounded once for the whole, and twice for the parts")
	}
}
