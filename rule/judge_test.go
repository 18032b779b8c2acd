package rule_test

import (
	"math/rand"
	"slices"
	"testing"

	"ullage/api"
	"ullage/rule"
)

// exactly are facts for a code that have one value each.
func exactly(c api.Code, values []int) []api.Fact {
	var f []api.Fact
	for i, x := range c.Facts {
		f = append(f, api.Fact{Name: x.Name, Value: one(values[i])})
	}
	return f
}

func expectVerdicts(t *testing.T, c api.Code, day int, f []api.Fact, got []api.Verdict, e api.Errno, want []api.Verdict, wantE api.Errno) {
	t.Helper()
	if !slices.Equal(got, want) || e != wantE {
		t.Errorf("Judge of %v on the day %d with %v: %v %d, want %v %d", c, day, f, got, e, want, wantE)
	}
}

func wantJudge(c api.Code, day int, f []api.Fact) []api.Verdict {
	var l []api.Verdict
	for i := range c.Rules {
		l = append(l, api.Verdict{
			Rule:  i,
			Binds: answerFor(f, func(values []int) bool { return bindsAt(c, i, day, values) }),
			Kept:  answerFor(f, func(values []int) bool { return keptAt(c, i, day, values) }),
		})
	}
	return l
}

func wantBreaks(c api.Code, day int, f []api.Fact) (int, []int, api.Errno) {
	for _, values := range every(f) {
		if l := brokenAt(c, day, values); len(l) > 0 {
			return l[0], values, api.OK
		}
	}
	return 0, nil, api.ErrNone
}

func wantRests(c api.Code, day int, f []api.Fact) []string {
	kept := wantKept(c, day, f)
	if kept == api.Maybe {
		return nil
	}
	var l []string
	for i, x := range c.Facts {
		if wantKept(c, day, sure(f, i, x.Value)) != kept {
			l = append(l, x.Name)
		}
	}
	return l
}

// wantAllowed goes through each value alone.
func wantAllowed(c api.Code, day int, f []api.Fact, i int) []api.Range {
	var l []api.Range
	for n := f[i].Value.Lo; n <= f[i].Value.Hi; n++ {
		if wantKept(c, day, sure(f, i, one(n))) != api.Yes {
			continue
		}
		if len(l) == 0 || l[len(l)-1].Hi < n-1 {
			l = append(l, one(n))
		}
		l[len(l)-1].Hi = n
	}
	return l
}

// expectAnswers compares all answers of a code with those of the oracle.
func expectAnswers(t *testing.T, c api.Code, day int, f []api.Fact) {
	t.Helper()
	got, e := rule.Judge(c, day, f)
	want := wantJudge(c, day, f)
	expectVerdicts(t, c, day, f, got, e, want, api.OK)
	for i, v := range want {
		if n, e := rule.Binds(c, i, day, f); n != v.Binds || e != api.OK {
			t.Errorf("Binds of %v, %d on the day %d with %v: %d %d, want %d", c, i, day, f, n, e, v.Binds)
		}
	}
	if n, e := rule.Kept(c, day, f); n != wantKept(c, day, f) || e != api.OK {
		t.Errorf("Kept of %v on the day %d with %v: %d %d", c, day, f, n, e)
	}
	i, values, e := rule.Breaks(c, day, f)
	if n, l, wantE := wantBreaks(c, day, f); i != n || !slices.Equal(values, l) || e != wantE {
		t.Errorf("Breaks of %v on the day %d with %v: %d %v %d, want %d %v %d", c, day, f, i, values, e, n, l, wantE)
	}
	rests, e := rule.Rests(c, day, f)
	if l := wantRests(c, day, f); !slices.Equal(rests, l) || e != api.OK {
		t.Errorf("Rests of %v on the day %d with %v: %v %d, want %v", c, day, f, rests, e, l)
	}
	for i, x := range f {
		got, e := rule.Allowed(c, day, f, x.Name)
		if l := wantAllowed(c, day, f, i); !slices.Equal(got, l) || e != api.OK {
			t.Errorf("Allowed of %v on the day %d with %v, %s: %v %d, want %v", c, day, f, x.Name, got, e, l)
		}
	}
}

// TestAnswers is P4.2, and has all answers of codes with few values.
func TestAnswers(t *testing.T) {
	kept, several, some := map[int]int{}, 0, 0
	trials(68, 1000, func(r *rand.Rand, c api.Code) {
		for range 6 {
			day, f := someDays()[r.Intn(len(someDays()))], randomFacts(r, c)
			expectAnswers(t, c, day, f)
			kept[wantKept(c, day, f)]++
			if len(wantRests(c, day, f)) > 0 {
				some++
			}
			for i := range f {
				if len(wantAllowed(c, day, f, i)) > 1 {
					several++
				}
			}
		}
	})
	if kept[api.Yes] < 200 || kept[api.No] < 200 || kept[api.Maybe] < 200 || several < 50 || some < 100 {
		t.Error("too few cases:", kept, several, some)
	}
}

func TestAnswersOfTheExample(t *testing.T) {
	c := exampleC()
	got, e := rule.Judge(c, 60, exampleF(span(9001, 9100), one(20)))
	expectVerdicts(t, c, 60, nil, got, e, []api.Verdict{{Rule: 0, Binds: api.Yes, Kept: api.No}, {Rule: 1, Binds: api.No, Kept: api.Yes}, {Rule: 2, Binds: api.No, Kept: api.Yes}}, api.OK)
	some := exampleF(span(9000, 9300), span(0, 5))
	if n, e := rule.Kept(c, 150, some); n != api.Maybe || e != api.OK {
		t.Error("Kept:", n, e)
	}
	if i, values, e := rule.Breaks(c, 150, some); i != 2 || !slices.Equal(values, []int{9000, 0}) || e != api.OK {
		t.Error("Breaks:", i, values, e)
	}
	if l, e := rule.Rests(c, 10, exampleF(one(8000), one(20))); !slices.Equal(l, []string{"draft", "rain"}) || e != api.OK {
		t.Error("Rests:", l, e)
	}
	if l, e := rule.Allowed(c, 150, exampleF(span(0, 12000), span(0, 5)), "draft"); !slices.Equal(l, []api.Range{span(9201, 12000)}) || e != api.OK {
		t.Error("Allowed:", l, e)
	}
	// On a day without rules all is kept.
	all := exampleF(span(0, 12000), span(0, 50))
	got, e = rule.Judge(c, 201, all)
	expectVerdicts(t, c, 201, all, got, e, []api.Verdict{{Rule: 0, Binds: api.No, Kept: api.Yes}, {Rule: 1, Binds: api.No, Kept: api.Yes}, {Rule: 2, Binds: api.No, Kept: api.Yes}}, api.OK)
	if n, e := rule.Kept(c, api.MaxDay, all); n != api.Yes || e != api.OK {
		t.Error("Kept:", n, e)
	}
	if i, values, e := rule.Breaks(c, 201, all); i != 0 || len(values) != 0 || e != api.ErrNone {
		t.Error("Breaks:", i, values, e)
	}
	if l, e := rule.Rests(c, 201, all); len(l) != 0 || e != api.OK {
		t.Error("Rests:", l, e)
	}
	if l, e := rule.Allowed(c, 201, all, "rain"); !slices.Equal(l, []api.Range{span(0, 50)}) || e != api.OK {
		t.Error("Allowed:", l, e)
	}
	// Nothing is allowed.
	if l, e := rule.Allowed(c, 0, all, "rain"); len(l) != 0 || e != api.OK {
		t.Error("Allowed:", l, e)
	}
}

// TestNoRules: a code without rules demands nothing.
func TestNoRules(t *testing.T) {
	c := api.Code{Name: "x", Facts: []api.Fact{{Name: "a", Value: span(-api.MaxValue, api.MaxValue)}}}
	if l, e := rule.Judge(c, 0, c.Facts); len(l) != 0 || e != api.OK {
		t.Error("Judge:", l, e)
	}
	if n, e := rule.Kept(c, 0, c.Facts); n != api.Yes || e != api.OK {
		t.Error("Kept:", n, e)
	}
	if i, values, e := rule.Breaks(c, 0, c.Facts); i != 0 || len(values) != 0 || e != api.ErrNone {
		t.Error("Breaks:", i, values, e)
	}
	if l, e := rule.Rests(c, 0, c.Facts); len(l) != 0 || e != api.OK {
		t.Error("Rests:", l, e)
	}
	if l, e := rule.Allowed(c, 0, c.Facts, "a"); !slices.Equal(l, []api.Range{c.Facts[0].Value}) || e != api.OK {
		t.Error("Allowed:", l, e)
	}
	if l, e := rule.Clashes(c); len(l) != 0 || e != api.OK {
		t.Error("Clashes:", l, e)
	}
	if l, e := rule.Idle(c); len(l) != 0 || e != api.OK {
		t.Error("Idle:", l, e)
	}
	if _, e := rule.Witness(c, 0); e != api.ErrWhich {
		t.Error("Witness:", e)
	}
	if l, e := rule.InForce(c, 0); len(l) != 0 || e != api.OK {
		t.Error("InForce:", l, e)
	}
}

// TestGreatValues has values that are far apart, and runs of one value.
func TestGreatValues(t *testing.T) {
	c := code(t, "code x\nfact a -1000000000000 1000000000000\nrule r 0 9 when a != 7 must a < -999999999999 or a = 0 or a >= 1000000000000\n")
	want := []api.Range{one(-api.MaxValue), one(0), one(7), one(api.MaxValue)}
	if l, e := rule.Allowed(c, 9, c.Facts, "a"); !slices.Equal(l, want) || e != api.OK {
		t.Error(l, e)
	}
	f := []api.Fact{{Name: "a", Value: span(0, 8)}}
	if l, e := rule.Allowed(c, 9, f, "a"); !slices.Equal(l, []api.Range{one(0), one(7)}) || e != api.OK {
		t.Error(l, e)
	}
	if i, values, e := rule.Breaks(c, 9, c.Facts); i != 0 || !slices.Equal(values, []int{1 - api.MaxValue}) || e != api.OK {
		t.Error(i, values, e)
	}
	// Runs beside each other are one.
	d := code(t, "code x\nfact a 0 9\nrule r 0 9 when true must a = 2 or a = 3 or a = 4 or a = 6\n")
	if l, e := rule.Allowed(d, 9, d.Facts, "a"); !slices.Equal(l, []api.Range{span(2, 4), one(6)}) || e != api.OK {
		t.Error(l, e)
	}
}

// TestUnless: a rule that does not bind releases nobody.
func TestUnless(t *testing.T) {
	c := code(t, "code x\nfact a 0 9\nrule p 0 9 when a < 5 must true\nrule q 0 9 when a < 3 must true unless p\nrule s 0 9 when true must a = 9 unless q\nrule u 5 9 when true must a = 9 unless s p\n")
	for _, x := range []struct {
		day, a int
		want   [4]int
	}{{0, 0, [4]int{1, 0, 1, 0}}, {0, 4, [4]int{1, 0, 1, 0}}, {0, 5, [4]int{0, 0, 1, 0}}, {5, 9, [4]int{0, 0, 1, 0}}, {10, 0, [4]int{0, 0, 0, 0}}} {
		for i, want := range x.want {
			if n, e := rule.Binds(c, i, x.day, exactly(c, []int{x.a})); n != want || e != api.OK {
				t.Errorf("%d on the day %d with %d: %d %d", i, x.day, x.a, n, e)
			}
		}
	}
	// The rule that releases must be in force.
	d := code(t, "code x\nfact a 0 9\nrule p 3 5 when true must true\nrule q 0 9 when true must true unless p\n")
	for day, want := range map[int]int{2: api.Yes, 3: api.No, 5: api.No, 6: api.Yes} {
		if n, e := rule.Binds(d, 1, day, d.Facts); n != want || e != api.OK {
			t.Errorf("the day %d: %d %d", day, n, e)
		}
	}
}

func TestHolds(t *testing.T) {
	f := []api.Fact{{Name: "a", Value: span(0, 9)}, {Name: "b", Value: one(5)}}
	for text, want := range map[string]int{
		"true": api.Yes, "not true": api.No, "a < 3": api.Maybe, "a < 10": api.Yes, "a < 0": api.No, "a <= 9": api.Yes, "a <= 8": api.Maybe, "a <= -1": api.No, "a = 9": api.Maybe, "a = 10": api.No, "b = 5": api.Yes, "b != 5": api.No, "b = 4": api.No,
		// parts are Maybe, and the whole is not
		"a < 3 or a >= 3": api.Yes, "a < 3 and a >= 3": api.No, "a < 3 or a > 3": api.Maybe, "a = 3 and not a = 3": api.No, "not ( a < 3 and a > 5 )": api.Yes,
	} {
		if n, e := rule.Holds(f, cond(t, text)); n != want || e != api.OK {
			t.Errorf("%q: %d %d, want %d", text, n, e, want)
		}
	}
	if n, e := rule.Holds(nil, termsOf(api.Term{}, not(0))); n != api.No || e != api.OK {
		t.Error("without facts:", n, e)
	}
	r := rand.New(rand.NewSource(69))
	seen := map[int]int{}
	for range 3000 {
		var f []api.Fact
		for _, name := range []string{"c", "a", "b"}[:1+r.Intn(3)] {
			f = append(f, api.Fact{Name: name, Value: randomRange(r)})
		}
		c := randomCond(r, f, 10)
		want := answerFor(f, func(values []int) bool { return condSo(f, c, values) })
		if n, e := rule.Holds(f, c); n != want || e != api.OK {
			t.Errorf("%v with %v: %d %d, want %d", c, f, n, e, want)
		}
		seen[want]++
	}
	if seen[api.Yes] < 300 || seen[api.No] < 300 || seen[api.Maybe] < 300 {
		t.Error("too few cases:", seen)
	}
}

// question is what Holds is asked.
type question struct {
	f []api.Fact
	c api.Cond
}

// parts30 has MaxTerms comparisons, of which so many are of each of the facts f0, f1 ..; each parts at two numbers.
func parts30(counts ...int) api.Cond {
	var c api.Cond
	for i, n := range counts {
		for k := range n {
			c.Terms = append(c.Terms, is(manyFacts(i + 1)[i].Name, 1+2*k))
		}
	}
	return c
}

func TestHoldsErrors(t *testing.T) {
	good := func() question { return question{manyFacts(api.MaxFacts), parts30(15, 15)} }
	expectDefects(t, good, func(q question) api.Errno {
		n, e := rule.Holds(q.f, q.c)
		if n != 0 && e != api.OK {
			t.Error(n, e)
		}
		return e
	}, []defect[question]{
		{"too many facts", func(q *question) { q.f = append(q.f, manyFacts(1)...) }, api.ErrLong},
		{"a fact's name", func(q *question) { q.f[5].Name = "F" }, api.ErrFact},
		{"a name twice", func(q *question) { q.f[4].Name = "f2" }, api.ErrFact},
		{"a value", func(q *question) { q.f[3].Value = span(1, 0) }, api.ErrFact},
		{"a great value", func(q *question) { q.f[3].Value = span(0, api.MaxValue+1) }, api.ErrFact},
		{"terms", func(q *question) { q.c.Terms = make([]api.Term, api.MaxTerms+1) }, api.ErrLong},
		{"a term", func(q *question) { q.c.Terms[0] = not(0) }, api.ErrCond},
		{"a name", func(q *question) { q.c.Terms[1].Name = "f6" }, api.ErrName},
		{"cells", func(q *question) {
			q.f[0].Value, q.f[1].Value, q.f[2].Value, q.c = span(0, 99), span(0, 99), span(0, 99), parts30(10, 10, 10)
		}, api.ErrLong},
	})
	// n comparisons make 2 n + 1 cuts: 25 times 31 times 5 is 3875, 21 times 21 times 9 is 3969, 31 times 15 times 9 is 4185
	wide := manyFacts(4)
	for i := range wide {
		wide[i].Value = span(0, 99)
	}
	for _, x := range []struct {
		c api.Cond
		e api.Errno
	}{{parts30(12, 15, 2), api.OK}, {parts30(10, 10, 4), api.OK}, {parts30(15, 7, 4), api.ErrLong}, {parts30(10, 10, 10), api.ErrLong}, {parts30(8, 8, 7, 7), api.ErrLong}} {
		if _, e := rule.Holds(wide, x.c); e != x.e {
			t.Errorf("%v: %d, want %d", x.c, e, x.e)
		}
	}
	// Just MaxCells, and more: there is one cut less without the value 0.
	wide[0].Value, wide[1].Value, wide[2].Value = span(1, 20), span(1, 20), span(1, 10)
	if _, e := rule.Holds(wide, parts30(10, 10, 5)); e != api.OK {
		t.Error("MaxCells:", e)
	}
	wide[2].Value = span(0, 10)
	if _, e := rule.Holds(wide, parts30(10, 10, 5)); e != api.ErrLong {
		t.Error("more than MaxCells:", e)
	}
}
