package rule_test

import (
	"math/rand"
	"slices"
	"testing"

	"ullage/api"
	"ullage/rule"
)

// bothBind has the values with which two rules bind on a day, and whether both are kept with some of them.
func bothBind(c api.Code, i, j, day int) ([][]int, bool) {
	var all [][]int
	kept := false
	for _, values := range every(c.Facts) {
		if bindsAt(c, i, day, values) && bindsAt(c, j, day, values) {
			all = append(all, values)
			kept = kept || condSo(c.Facts, c.Rules[i].Must, values) && condSo(c.Facts, c.Rules[j].Must, values)
		}
	}
	return all, kept
}

func wantClashes(c api.Code) []api.Clash {
	var l []api.Clash
	for i := range c.Rules {
		for j := i + 1; j < len(c.Rules); j++ {
			for _, day := range someDays() {
				if all, kept := bothBind(c, i, j, day); len(all) > 0 && !kept {
					l = append(l, api.Clash{I: i, J: j, Day: day, Values: all[0]})
					break
				}
			}
		}
	}
	return l
}

func sameClash(a, b api.Clash) bool {
	return a.I == b.I && a.J == b.J && a.Day == b.Day && slices.Equal(a.Values, b.Values)
}

// isWitness reports whether a rule alone is broken.
func isWitness(c api.Code, i int, x api.Case) bool {
	return slices.Equal(brokenAt(c, x.Day, x.Values), []int{i})
}

func wantWitness(c api.Code, i int) (api.Case, api.Errno) {
	for _, day := range someDays() {
		for _, values := range every(c.Facts) {
			if x := (api.Case{Day: day, Values: values}); isWitness(c, i, x) {
				return x, api.OK
			}
		}
	}
	return api.Case{}, api.ErrNone
}

func expectClashes(t *testing.T, c api.Code, want []api.Clash) {
	t.Helper()
	if got, e := rule.Clashes(c); !slices.EqualFunc(got, want, sameClash) || e != api.OK {
		t.Errorf("Clashes of %v: %v %d, want %v", c, got, e, want)
	}
}

func expectWitness(t *testing.T, c api.Code, i int, want api.Case, wantE api.Errno) {
	t.Helper()
	if got, e := rule.Witness(c, i); got.Day != want.Day || !slices.Equal(got.Values, want.Values) || e != wantE {
		t.Errorf("Witness of %v, %d: %v %d, want %v %d", c, i, got, e, want, wantE)
	}
}

func expectIdle(t *testing.T, c api.Code, want ...int) {
	t.Helper()
	if got, e := rule.Idle(c); !slices.Equal(got, want) || e != api.OK {
		t.Errorf("Idle of %v: %v %d, want %v", c, got, e, want)
	}
}

func TestClashesOfTheExample(t *testing.T) {
	expectClashes(t, exampleC(), []api.Clash{{I: 0, J: 2, Day: 0, Values: []int{0, 0}}})
	// In the order of I, then J.
	expectClashes(t, code(t, "code x\nfact a 0 9\nrule p 5 9 when true must a < 3\nrule q 0 7 when true must a > 5\nrule s 3 9 when a < 8 must a = 4\nrule u 0 9 when a = 9 must true\n"), []api.Clash{
		{I: 0, J: 1, Day: 5, Values: []int{0}}, {I: 0, J: 2, Day: 5, Values: []int{0}}, {I: 0, J: 3, Day: 5, Values: []int{9}}, {I: 1, J: 2, Day: 3, Values: []int{0}}})
	// Rules that never bind together do not clash, nor those that are kept with some values.
	expectClashes(t, code(t, "code x\nfact a 0 9\nrule p 0 4 when true must a < 3\nrule q 5 9 when true must a > 5\nrule s 0 4 when a < 2 must a > 0\nrule u 5 9 when a > 6 must a < 8\nrule v 5 9 when a <= 6 must a > 5\n"), nil)
	// They need not be able to be kept alone.
	expectClashes(t, code(t, "code x\nfact a 0 9\nrule p 0 4 when a > 6 must not true\nrule q 0 4 when a < 9 must true\n"), []api.Clash{{I: 0, J: 1, Day: 0, Values: []int{7}}})
	// Unless may part them, on some days.
	expectClashes(t, code(t, "code x\nfact a 0 9\nrule r 0 6 when true must true\nrule p 0 9 when true must a < 3\nrule q 0 9 when true must a > 5 unless r\n"), []api.Clash{{I: 1, J: 2, Day: 7, Values: []int{0}}})
	// the last day
	expectClashes(t, code(t, "code x\nfact a -5 9\nfact b 2 3\nrule p 100000 100000 when b = 3 must a < 3\nrule q 0 100000 when a > -2 must a > 5\n"), []api.Clash{{I: 0, J: 1, Day: api.MaxDay, Values: []int{-1, 3}}})
}

func TestWitnessesOfTheExample(t *testing.T) {
	c := exampleC()
	expectIdle(t, c)
	expectWitness(t, c, 0, api.Case{Day: 0, Values: []int{9001, 10}}, api.OK)
	expectWitness(t, c, 1, api.Case{Day: 100, Values: []int{9501, 10}}, api.OK)
	expectWitness(t, c, 2, api.Case{Day: 0, Values: []int{0, 0}}, api.OK)
	late, e := rule.With(c, api.Rule{Name: "late", From: 100, To: 150, When: cond(t, "rain >= 10"), Must: cond(t, "draft <= 9600")})
	if e != api.OK {
		t.Fatal(e)
	}
	expectIdle(t, late, 3)
	expectWitness(t, late, 3, api.Case{}, api.ErrNone)
	// Of two equal rules both are idle.
	expectIdle(t, code(t, "code x\nfact a 0 9\nrule p 0 9 when true must a < 3\nrule q 0 9 when true must a < 3\nrule s 0 9 when true must true\nrule u 0 9 when a > 9 must not true\nrule v 0 10 when true must a < 4\n"), 0, 1, 2, 3)
	// the last day, and the last values
	d := code(t, "code x\nfact a 0 9\nfact b -1 0\nrule p 0 99999 when true must a < 9\nrule q 0 100000 when true must a < 9 or b < 0\n")
	expectIdle(t, d)
	expectWitness(t, d, 1, api.Case{Day: api.MaxDay, Values: []int{9, 0}}, api.OK)
	expectWitness(t, d, 0, api.Case{Day: 0, Values: []int{9, -1}}, api.OK)
}

// TestAnalyses is P4.5, for codes with few values.
func TestAnalyses(t *testing.T) {
	clashes, idle, witnesses := 0, 0, 0
	trials(70, 300, func(_ *rand.Rand, c api.Code) {
		want := wantClashes(c)
		expectClashes(t, c, want)
		for _, x := range want {
			if e := rule.CheckClash(c, x); e != api.OK {
				t.Errorf("CheckClash of %v, %v: %d", c, x, e)
			}
		}
		clashes += len(want)
		var none []int
		for i := range c.Rules {
			x, e := wantWitness(c, i)
			expectWitness(t, c, i, x, e)
			if e == api.ErrNone {
				none = append(none, i)
				expectSameWithout(t, c, i)
			} else if e := rule.CheckWitness(c, i, x); e != api.OK {
				t.Errorf("CheckWitness of %v, %d, %v: %d", c, i, x, e)
			} else {
				witnesses++
			}
		}
		expectIdle(t, c, none...)
		idle += len(none)
	})
	if clashes < 100 || idle < 100 || witnesses < 100 {
		t.Error("too few cases:", clashes, idle, witnesses)
	}
}

// expectSameWithout: without the demand of an idle rule all rules are kept in the same cases.
func expectSameWithout(t *testing.T, c api.Code, i int) {
	t.Helper()
	d := c
	d.Rules = slices.Clone(c.Rules)
	d.Rules[i].Must = always()
	for _, day := range someDays() {
		for _, values := range every(c.Facts) {
			n, e := rule.Kept(c, day, exactly(c, values))
			m, f := rule.Kept(d, day, exactly(c, values))
			if n != m || e != api.OK || f != api.OK {
				t.Fatalf("without the demand of %d of %v: %d %d, and %d %d", i, c, n, e, m, f)
			}
		}
	}
}

// TestChecksOfAnalyses tries all days, pairs and values.
func TestChecksOfAnalyses(t *testing.T) {
	right := [2]int{}
	trials(71, 60, func(_ *rand.Rand, c api.Code) {
		n := len(c.Rules)
		for _, day := range someDays() {
			for _, values := range every(c.Facts) {
				for i := range n {
					x := api.Case{Day: day, Values: values}
					want := api.ErrRule
					if isWitness(c, i, x) {
						want = api.OK
						right[0]++
					}
					if e := rule.CheckWitness(c, i, x); e != want {
						t.Errorf("CheckWitness of %v, %d, %v: %d, want %d", c, i, x, e, want)
					}
				}
			}
			for i := range n {
				for j := range n {
					all, kept := bothBind(c, i, j, day)
					for k, values := range every(c.Facts) {
						if k%3 > 0 {
							continue
						}
						want := api.ErrRule
						if i < j && !kept && slices.ContainsFunc(all, func(l []int) bool { return slices.Equal(l, values) }) {
							want = api.OK
							right[1]++
						}
						if e := rule.CheckClash(c, api.Clash{I: i, J: j, Day: day, Values: values}); e != want {
							t.Errorf("CheckClash of %v, %d %d on the day %d, %v: %d, want %d", c, i, j, day, values, e, want)
						}
					}
				}
			}
		}
	})
	if right[0] < 100 || right[1] < 100 {
		t.Error("too few cases:", right)
	}
}

// TestWrongClashes changes a clash that is right; the two rules clash with all values on the days 3 to 7.
func TestWrongClashes(t *testing.T) {
	c := code(t, "code x\nfact a 0 9\nfact b -1 1\nrule p 0 7 when true must a < 3\nrule q 3 9 when true must a > 5\nrule s 0 9 when true must b < 7\n")
	good := func() api.Clash { return api.Clash{I: 0, J: 1, Day: 5, Values: []int{4, 0}} }
	for what, x := range map[string]struct {
		do func(x *api.Clash)
		e  api.Errno
	}{
		"as it is":  {func(x *api.Clash) {}, api.OK},
		"first day": {func(x *api.Clash) { x.Day = 3 }, api.OK}, "last day": {func(x *api.Clash) { x.Day = 7 }, api.OK}, "day ahead": {func(x *api.Clash) { x.Day = 2 }, api.ErrRule}, "day behind": {func(x *api.Clash) { x.Day = 8 }, api.ErrRule},
		"no day": {func(x *api.Clash) { x.Day = -1 }, api.ErrRule}, "late day": {func(x *api.Clash) { x.Day = api.MaxDay + 1 }, api.ErrRule},
		"reversed": {func(x *api.Clash) { x.I, x.J = 1, 0 }, api.ErrRule}, "one rule": {func(x *api.Clash) { x.J = 0 }, api.ErrRule}, "another rule": {func(x *api.Clash) { x.J = 2 }, api.ErrRule}, "no rule": {func(x *api.Clash) { x.J = 3 }, api.ErrRule}, "no first rule": {func(x *api.Clash) { x.I = -1 }, api.ErrRule},
		"great rules": {func(x *api.Clash) { x.I, x.J = 1<<62, 1<<63-1 }, api.ErrRule}, "small rules": {func(x *api.Clash) { x.I, x.J = -1<<63, -1 }, api.ErrRule},
		"least values": {func(x *api.Clash) { x.Values = []int{0, -1} }, api.OK}, "greatest values": {func(x *api.Clash) { x.Values = []int{9, 1} }, api.OK},
		"less": {func(x *api.Clash) { x.Values[0] = -1 }, api.ErrRule}, "more": {func(x *api.Clash) { x.Values[0] = 10 }, api.ErrRule}, "less of the last": {func(x *api.Clash) { x.Values[1] = -2 }, api.ErrRule}, "more of the last": {func(x *api.Clash) { x.Values[1] = 2 }, api.ErrRule},
		"few values": {func(x *api.Clash) { x.Values = x.Values[:1] }, api.ErrRule}, "many values": {func(x *api.Clash) { x.Values = append(x.Values, 0) }, api.ErrRule}, "no values": {func(x *api.Clash) { x.Values = nil }, api.ErrRule},
	} {
		y := good()
		x.do(&y)
		if e := rule.CheckClash(c, y); e != x.e {
			t.Errorf("%s: %d, want %d", what, e, x.e)
		}
	}
	// no rule behind as many as may be
	full := api.Code{Name: "x", Facts: manyFacts(1), Rules: manyRules(api.MaxRules)}
	for _, x := range []api.Clash{{I: 0, J: api.MaxRules, Values: []int{0}}, {I: api.MaxRules - 1, J: api.MaxRules, Values: []int{0}}, {I: api.MaxRules, J: api.MaxRules + 1, Values: []int{0}}} {
		if e := rule.CheckClash(full, x); e != api.ErrRule {
			t.Errorf("%v: %d", x, e)
		}
	}
	bad := c
	bad.Name = ""
	if e := rule.CheckClash(bad, good()); e != api.ErrName {
		t.Error("no code:", e)
	}
	if e := rule.CheckClash(bad, api.Clash{Day: -1}); e != api.ErrName {
		t.Error("no code and no clash:", e)
	}
}

// TestWrongWitnesses changes a witness that is right; the rule is broken alone with the values a from 3 to 5 on the days 3 to 7.
func TestWrongWitnesses(t *testing.T) {
	c := code(t, "code x\nfact a 0 9\nfact b -1 1\nrule p 3 7 when true must a < 3\nrule q 0 9 when true must a < 6\nrule s 0 9 when true must b < 1\n")
	for what, x := range map[string]struct {
		rule int
		c    api.Case
		e    api.Errno
	}{
		"good": {0, api.Case{Day: 3, Values: []int{3, -1}}, api.OK}, "greatest": {0, api.Case{Day: 7, Values: []int{5, 0}}, api.OK},
		"day ahead": {0, api.Case{Day: 2, Values: []int{3, -1}}, api.ErrRule}, "day behind": {0, api.Case{Day: 8, Values: []int{3, -1}}, api.ErrRule}, "no day": {1, api.Case{Day: -1, Values: []int{6, 0}}, api.ErrRule}, "late day": {1, api.Case{Day: api.MaxDay + 1, Values: []int{6, 0}}, api.ErrRule},
		"kept": {0, api.Case{Day: 3, Values: []int{2, -1}}, api.ErrRule}, "two broken": {0, api.Case{Day: 3, Values: []int{6, -1}}, api.ErrRule}, "another two": {0, api.Case{Day: 3, Values: []int{3, 1}}, api.ErrRule}, "another rule": {1, api.Case{Day: 3, Values: []int{3, -1}}, api.ErrRule}, "the other one": {1, api.Case{Day: 0, Values: []int{6, 0}}, api.OK},
		"more": {1, api.Case{Day: 0, Values: []int{10, 0}}, api.ErrRule}, "less": {1, api.Case{Day: 0, Values: []int{6, -2}}, api.ErrRule}, "few values": {1, api.Case{Day: 0, Values: []int{6}}, api.ErrRule}, "many values": {1, api.Case{Day: 0, Values: []int{6, 0, 0}}, api.ErrRule}, "no values": {1, api.Case{}, api.ErrRule},
		"no rule": {3, api.Case{Day: 0, Values: []int{6, 0}}, api.ErrWhich}, "no case, too": {-1, api.Case{Day: -1}, api.ErrWhich},
	} {
		if e := rule.CheckWitness(c, x.rule, x.c); e != x.e {
			t.Errorf("%s: %d, want %d", what, e, x.e)
		}
	}
}
