package cond_test

import (
	"fmt"
	"math"
	"math/rand"
	"testing"

	"ullage/api"
	"ullage/cond"
)

// cert has angles, and at each a value.
func cert(l ...int) api.Cert { return api.Cert{Points: exactly(l...).Points} }

// stairs is a certificate of many points of one value.
func stairs(many, value int) api.Cert {
	var c api.Cert
	for x := range many {
		c.Points = append(c.Points, api.Point{X: x, Lo: value, Hi: value})
	}
	return c
}

func TestShown(t *testing.T) {
	y := api.MaxY
	for _, x := range []struct {
		c    api.Cert
		want int
	}{
		{cert(20, 1, 400, 1920), 729980},
		{cert(0, 0, 1, 0), 0},
		{cert(0, 1, 900, -1), 0},
		{cert(0, 7, 1, 8, 3, -4), 23},
		{cert(0, -y, 900, -y), -1800 * y},
		{cert(0, y, 900, y), 1800 * y},
		{cert(0, y, 400, y-1, 900, y), 1800*y - 900},
		{stairs(api.MaxCert, 3), 6 * (api.MaxCert - 1)},
	} {
		n, e := cond.Shown(x.c)
		expect(t, fmt.Sprint("Shown ", x.c), n, e, x.want, api.OK)
	}
	r := rand.New(rand.NewSource(40))
	for range 200 {
		c := api.Cert{Points: randomTable(r, r.Intn(9), 10+r.Intn(891), 60, -api.MaxY, api.MaxY, 0).Points}
		n, e := cond.Shown(c)
		expect(t, fmt.Sprint("Shown ", c), n, e, wantShown(c), api.OK)
	}
}

// badCerts have the wrong form.
func badCerts() []api.Cert {
	y := api.MaxY
	l := []api.Cert{{}, {Points: []api.Point{}}, cert(20, 1), cert(20, 1, 20, 1), cert(20, 1, 400, 1, 399, 1), cert(400, 1, 20, 1), cert(20, 1, 200, 1, 200, 1, 400, 1),
		cert(-1, 1, 400, 1), cert(20, 1, 901, 1), cert(20, 1, math.MaxInt, 1), cert(math.MinInt, 1, 400, 1),
		cert(20, y+1, 400, 1), cert(20, 1, 400, -y-1), cert(20, math.MinInt, 400, math.MaxInt), cert(20, 1, 400, math.MinInt), cert(20, 1, 30, y+1, 400, 1)}
	for i := range 3 {
		for _, d := range []int{-1, 1, 7, -y} {
			c := cert(20, 1, 100, 1, 400, 1)
			c.Points[i].Hi += d
			l = append(l, c)
		}
	}
	return l
}

func TestBadCerts(t *testing.T) {
	s, l := exampleS(), exampleL()
	for _, c := range badCerts() {
		n, e := cond.Shown(c)
		expect(t, fmt.Sprint("Shown ", c), n, e, 0, api.ErrCert)
		for _, need := range []int{-api.MaxNeed, 0, api.MaxNeed} {
			if e := cond.Check(s, l, 400, need, c); e != api.ErrCert {
				t.Errorf("Check %v: %d", c, e)
			}
		}
	}
	long := stairs(api.MaxCert+1, 0)
	bad := stairs(api.MaxCert+1, api.MaxY+1)
	equal := api.Cert{Points: make([]api.Point, api.MaxCert+1)}
	for _, c := range []api.Cert{long, bad, equal} {
		n, e := cond.Shown(c)
		expect(t, "Shown of too many points", n, e, 0, api.ErrLong)
		if e := cond.Check(s, l, 400, 0, c); e != api.ErrLong {
			t.Errorf("Check of too many points: %d", e)
		}
	}
}

func TestCheckExamples(t *testing.T) {
	s, l := exampleS(), exampleL()
	for _, x := range []struct {
		need int
		c    api.Cert
		want api.Errno
	}{
		{700000, cert(20, 1, 400, 1920), api.OK},
		{729980, cert(20, 1, 400, 1920), api.OK},
		{729981, cert(20, 1, 400, 1920), api.ErrShort},
		{740000, cert(20, 1, 400, 1920), api.ErrShort},
		{0, cert(20, 2, 400, 1920), api.ErrCert},
		{0, cert(20, 1, 400, 1921), api.ErrCert},
		{-api.MaxNeed, cert(20, 1, 400, 1920), api.OK},
		{api.MaxNeed, cert(20, 1, 400, 1920), api.ErrShort},
		{-api.MaxNeed, cert(20, -5, 400, -1920), api.OK},
		{-731500, cert(20, -5, 400, -1920), api.OK},
		{-731499, cert(20, -5, 400, -1920), api.ErrShort},
		{0, cert(21, 1, 400, 1920), api.ErrCert},
		{0, cert(19, -6, 400, 1920), api.ErrCert},
		{0, cert(20, 1, 399, 1), api.ErrCert},
		{0, cert(20, 1, 401, 1), api.ErrCert},
		{api.MaxNeed, cert(20, 2, 400, 1920), api.ErrCert},
		{api.MaxNeed, cert(21, 1, 400, 1920), api.ErrCert},
		{0, cert(20, 1, 100, 405, 400, 1920), api.OK},
		{0, cert(20, 1, 100, 406, 400, 1920), api.ErrCert},
		{0, cert(20, 1, 100, -api.MaxY, 400, 1920), api.ErrShort},
	} {
		if e := cond.Check(s, l, 400, x.need, x.c); e != x.want {
			t.Errorf("Check %d %v: %d, want %d", x.need, x.c, e, x.want)
		}
	}
	for _, need := range []int{api.MaxNeed + 1, -api.MaxNeed - 1, math.MinInt, math.MaxInt} {
		for _, c := range []api.Cert{cert(20, 1, 400, 1920), {}, stairs(api.MaxCert+1, 0), cert(20, 2, 400, 1920)} {
			if e := cond.Check(s, l, 400, need, c); e != api.ErrArg {
				t.Errorf("Check %d %v: %d", need, c, e)
			}
		}
		c, e := cond.Prove(s, l, 400, need)
		if e != api.ErrArg || len(c.Points) != 0 {
			t.Errorf("Prove %d: %v %d", need, c, e)
		}
	}
}

// TestCheckBetween: straight lines may not be above the margin, neither at a point of theirs nor at one of the margin.
func TestCheckBetween(t *testing.T) {
	bent := tableOf([3]int{0, 0, 9}, [3]int{5, 3, 9}, [3]int{10, 7, 90}, [3]int{20, 0, 0}, [3]int{30, 20, 30})
	for _, x := range []struct {
		what string
		most int
		c    api.Cert
		want api.Errno
	}{
		{"at all points", 30, cert(0, 0, 5, 3, 10, 7, 20, 0, 30, 20), api.OK},
		{"above at a point by a half", 10, cert(0, 0, 10, 7), api.ErrCert},
		{"touching a point", 10, cert(0, 0, 10, 6), api.OK},
		{"touching, and then above", 20, cert(0, 0, 10, 6, 20, 1), api.ErrCert},
		{"over a dip", 30, cert(0, 0, 5, 3, 10, 7, 30, 20), api.ErrCert},
		{"over a dip, low", 30, cert(0, 0, 30, 0), api.OK},
		{"over a dip, less low", 30, cert(0, 0, 30, 1), api.ErrCert},
		{"over a dip, from far below", 30, cert(0, -9, 30, 4), api.OK},
		{"over a dip by a third, from far below", 30, cert(0, -9, 30, 5), api.ErrCert},
		{"between its points", 30, cert(0, 0, 2, 1, 20, 0, 30, 20), api.OK},
		{"between its points, too high", 30, cert(0, 0, 2, 2, 20, 0, 30, 20), api.ErrCert},
		{"at the last one, too high", 30, cert(0, 0, 20, 0, 30, 21), api.ErrCert},
		{"at the first one, too high", 30, cert(0, 1, 20, 0, 30, 20), api.ErrCert},
		{"at one in the middle, too high", 30, cert(0, 0, 20, 1, 30, 20), api.ErrCert},
		{"cut", 19, cert(0, 0, 19, 0), api.OK},
		{"cut, at the rounded end", 19, cert(0, 0, 10, 5, 18, 1, 19, 0), api.OK},
		{"cut, above the rounded end", 19, cert(0, 0, 10, 5, 18, 1, 19, 1), api.ErrCert},
	} {
		if e := cond.Check(withMargin(bent, dry()), api.Load{}, x.most, -api.MaxNeed, x.c); e != x.want {
			t.Errorf("%s: %d, want %d", x.what, e, x.want)
		}
	}
	// As many points as there can be.
	level := withMargin(exactly(0, 3, api.MaxCert-1, 3), dry())
	if e := cond.Check(level, api.Load{}, 900, 6*(api.MaxCert-1), stairs(api.MaxCert, 3)); e != api.OK {
		t.Error("many points:", e)
	}
	if e := cond.Check(level, api.Load{}, 900, 0, stairs(api.MaxCert, 4)); e != api.ErrCert {
		t.Error("many points, too high:", e)
	}
}

// TestGreatCerts has values at the limits.
func TestGreatCerts(t *testing.T) {
	y := api.MaxY
	deep := oneAngle(0, 0)
	deep.Cross[0].Arms, deep.Flood = flat(0, 900, one(0)), flat(0, 9, dry())
	deep.Sine, deep.Shift = exactly(0, 0, 1, 0, 2, 1000000, 900, 1000000), flat(0, 900, one(0))
	l := api.Load{Surface: one(api.MaxMoment)} // the margin is 0 up to 1, and least from 2 on
	for _, x := range []struct {
		need int
		c    api.Cert
		want api.Errno
	}{
		{-2 * y, cert(0, 0, 1, 0, 2, -y), api.OK},
		{1 - y, cert(0, 0, 1, 0, 2, -y), api.ErrShort},
		{-y, cert(0, 0, 1, 1, 2, -y), api.ErrCert},
		{-y, cert(0, 0, 1, 0, 2, 1-y), api.ErrCert},
	} {
		if e := cond.Check(deep, l, 2, x.need, x.c); e != x.want {
			t.Errorf("Check %d %v: %d, want %d", x.need, x.c, e, x.want)
		}
	}
	all := cert(0, -y, 900, -y)
	for most, want := range map[int]api.Errno{900: api.ErrShort, 500: api.OK, 501: api.ErrShort} {
		all.Points[1].X = most
		if e := cond.Check(deep, l, most, -api.MaxNeed, all); e != want {
			t.Errorf("Check up to %d: %d, want %d", most, e, want)
		}
	}
	if c, e := cond.Prove(deep, l, 900, -api.MaxNeed); e != api.ErrShort || len(c.Points) != 0 {
		t.Error("Prove:", c, e)
	}
	r, e := cond.Rest(deep, l, 900)
	expect(t, "Rest", r, e, one(-y-1796*y), api.OK)
	high := withMargin(flat(0, 900, one(api.MaxPlace)), dry())
	if e := cond.Check(high, api.Load{}, 900, 1800*api.MaxPlace, cert(0, api.MaxPlace, 900, api.MaxPlace)); e != api.OK {
		t.Error("a high margin:", e)
	}
	if e := cond.Check(high, api.Load{}, 900, -api.MaxNeed, cert(0, y, 900, y)); e != api.ErrCert {
		t.Error("a higher certificate:", e)
	}
	if e := cond.Check(high, api.Load{}, 900, 0, cert(0, y, 900, -y)); e != api.ErrCert {
		t.Error("a certificate that falls:", e)
	}
}

// randomCert is one that is often right, and often nearly so.
func randomCert(r *rand.Rand, m api.Table, all api.Range) api.Cert {
	xs := map[int]bool{all.Lo: true, all.Hi: true}
	for _, p := range wantPlain(m, all).Points {
		xs[p.X] = xs[p.X] || r.Intn(9) > 0
	}
	for n := r.Intn(4); n > 0; n-- {
		xs[all.Lo+r.Intn(all.Hi-all.Lo+1)] = true
	}
	var c api.Cert
	for x := all.Lo; x <= all.Hi; x++ {
		if xs[x] {
			y := atOf(m, x).Lo - r.Intn(4)*r.Intn(9)
			c.Points = append(c.Points, api.Point{X: x, Lo: y, Hi: y})
		}
	}
	i := r.Intn(len(c.Points))
	switch r.Intn(8) {
	case 0:
		c.Points[i].Lo++
		c.Points[i].Hi++
	case 1:
		c.Points = c.Points[:max(i, 2)]
	case 2:
		c.Points = c.Points[min(i, len(c.Points)-2):]
	}
	return c
}

// certTrials hands ships whose rest has an area to do.
func certTrials(t *testing.T, seed int64, do func(r *rand.Rand, x trial, most int, m api.Table, all api.Range)) {
	t.Helper()
	r := rand.New(rand.NewSource(seed))
	found := 0
	for _, x := range trials(seed, 400) {
		most := api.MaxAngle
		if r.Intn(2) == 0 {
			most = r.Intn(api.MaxAngle + 1)
		}
		m, all, e := wantFrom(x.s, x.l, most, 1)
		if e == api.OK {
			found++
			do(r, x, most, m, all)
		}
	}
	if found < 200 {
		t.Error("too few cases:", found)
	}
}

// TestCerts holds all against the oracle.
func TestCerts(t *testing.T) {
	seen := map[api.Errno]int{}
	certTrials(t, 41, func(r *rand.Rand, x trial, most int, m api.Table, all api.Range) {
		for range 8 {
			c := randomCert(r, m, all)
			shown, below := wantShown(c), isBelow(m, all, c)
			for _, need := range []int{shown, shown + 1, shown - r.Intn(1000)} {
				got, want := cond.Check(x.s, x.l, most, need, c), api.OK
				if !below {
					want = api.ErrCert
				} else if shown < need {
					want = api.ErrShort
				}
				if got != want {
					t.Errorf("Check %d %v for %v from %v: %d, want %d", need, c, m, all, got, want)
				}
				seen[got]++
			}
		}
	})
	if seen[api.OK] < 500 || seen[api.ErrCert] < 500 || seen[api.ErrShort] < 300 {
		t.Error("too few cases:", seen)
	}
}

// TestProve is P3.4: what Prove returns is accepted.
func TestProve(t *testing.T) {
	certTrials(t, 42, func(r *rand.Rand, x trial, most int, m api.Table, all api.Range) {
		shown := wantShown(wantPlain(m, all))
		for _, need := range []int{shown, shown - 1, shown - r.Intn(1+max(shown, -shown)), -api.MaxNeed} {
			c, e := cond.Prove(x.s, x.l, most, need)
			if e != api.OK {
				t.Errorf("Prove %d: %d", need, e)
				continue
			}
			if e := cond.Check(x.s, x.l, most, need, c); e != api.OK {
				t.Errorf("Check of Prove %d: %v, %d", need, c, e)
			}
			if n, e := cond.Shown(c); n < need || e != api.OK {
				t.Errorf("Shown of Prove %d: %d, %d", need, n, e)
			}
			if !isBelow(m, all, c) {
				t.Errorf("Prove %d: %v is not below %v", need, c, m)
			}
		}
		for _, need := range []int{shown + 1, api.MaxNeed} {
			if c, e := cond.Prove(x.s, x.l, most, need); e != api.ErrShort || len(c.Points) != 0 {
				t.Errorf("Prove %d: %v, %d", need, c, e)
			}
		}
	})
}

func TestProveExamples(t *testing.T) {
	s, l := exampleS(), exampleL()
	c, e := cond.Prove(s, l, 400, 729980)
	if e != api.OK || cond.Check(s, l, 400, 729980, c) != api.OK {
		t.Error(c, e)
	}
	if c, e := cond.Prove(s, l, 400, 729981); e != api.ErrShort || len(c.Points) != 0 {
		t.Error(c, e)
	}
	if c, e := cond.Prove(s, l, 20, 0); e != api.ErrNone || len(c.Points) != 0 {
		t.Error(c, e)
	}
	// As many points as a margin may have.
	s.Sine, s.Shift = comb(0, api.MaxPoints-1), comb(1, api.MaxPoints-1)
	s.Cross = crossAt(1, 9)
	c, e = cond.Prove(s, l, 900, 10*(api.MaxPoints-1))
	if e != api.OK || cond.Check(s, l, 900, 10*(api.MaxPoints-1), c) != api.OK {
		t.Error(c, e)
	}
}
