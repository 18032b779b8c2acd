package rule_test

import (
	"math"
	"slices"
	"strconv"
	"strings"
	"testing"

	"ullage/api"
	"ullage/rule"
)

// goodNames and badNames are such, whatever they name.
func goodNames() []string {
	return []string{"a", "z", "a0", "z9", "draft", "abcdefghijkl", "a12345678901", "codes", "ands", "nott", "tru", "iff", "ab", "musts"}
}

func badNames() []string {
	return []string{"", "0", "9a", "A", "aB", "a b", " a", "a ", "a-b", "a_b", "a.b", "a\n", "a#", "#a", "abcdefghijklm", "a123456789012", "\u00e9", "a\u00e9", "a\x00", "a\xff", "`", "{", "a/", "a:",
		"code", "fact", "rule", "when", "must", "unless", "and", "or", "not", "true"}
}

func TestNamesThatAreSome(t *testing.T) {
	try := func(name string, want api.Errno, c api.Code) {
		t.Helper()
		if e := rule.Check(c); e != want {
			t.Errorf("%q: %d, want %d", name, e, want)
		}
	}
	for want, names := range map[api.Errno][]string{api.OK: goodNames(), api.ErrName: badNames()} {
		for _, name := range names {
			c := exampleC()
			c.Name = name
			try(name, want, c)
			c = exampleC()
			c.Facts = append(c.Facts, api.Fact{Name: name})
			if name != "draft" {
				try(name, want, c)
			}
			c = exampleC()
			c.Rules[2].Name = name
			try(name, want, c)
		}
	}
	// Codes, facts and rules may have one name.
	c := exampleC()
	c.Name, c.Rules[0].Name, c.Rules[1].Unless = "draft", "draft", []string{"draft"}
	try("draft", api.OK, c)
}

// defect is what makes a thing invalid.
type defect[T any] struct {
	what string
	do   func(x *T)
	e    api.Errno
}

// expectDefects tries each defect, and each two of them: the one that is named first decides.
func expectDefects[T any](t *testing.T, good func() T, check func(x T) api.Errno, l []defect[T]) {
	t.Helper()
	if e := check(good()); e != api.OK {
		t.Errorf("without a defect: %d", e)
	}
	for i, d := range l {
		x := good()
		d.do(&x)
		if e := check(x); e != d.e {
			t.Errorf("%s: %d, want %d", d.what, e, d.e)
		}
		for _, later := range l[i+1:] {
			x := good()
			later.do(&x)
			d.do(&x)
			if e := check(x); e != d.e {
				t.Errorf("%s, and then %s: %d, want %d", d.what, later.what, e, d.e)
			}
		}
	}
}

// thirty is a condition of as many terms as may be, of which only the last one counts.
func thirty() api.Cond {
	var c api.Cond
	for range api.MaxTerms {
		c.Terms = append(c.Terms, less("rain", 10))
	}
	return c
}

// wrongTerms are none, behind one term.
func wrongTerms() []api.Term {
	l := []api.Term{
		{Kind: -1}, {Kind: 7}, {Kind: 1 << 40}, {Kind: -1 << 63},
		{Kind: api.TmTrue, A: 1}, {Kind: api.TmTrue, B: 1}, {Kind: api.TmTrue, Name: "rain"}, {Kind: api.TmTrue, Num: 1},
		{Kind: api.TmNot, B: 1}, {Kind: api.TmNot, Name: "rain"}, {Kind: api.TmNot, Num: 1}, not(1), not(2), not(-1), not(1 << 62), not(-1 << 63),
	}
	for _, kind := range []int{api.TmLess, api.TmMost, api.TmIs} {
		for _, t := range []api.Term{{A: 1}, {B: 1}, {A: -1}, {Num: api.MaxValue + 1}, {Num: -api.MaxValue - 1}, {Num: 1<<63 - 1}, {Num: -1 << 63}} {
			t.Kind, t.Name = kind, "rain"
			l = append(l, t)
		}
	}
	for _, kind := range []int{api.TmAnd, api.TmOr} {
		for _, t := range []api.Term{{Name: "rain"}, {Num: 1}, {A: 1}, {B: 1}, {A: -1}, {B: -1}, {A: 1 << 62}, {B: -1 << 63}} {
			t.Kind = kind
			l = append(l, t)
		}
	}
	return l
}

func TestCheckCond(t *testing.T) {
	f := exampleF(span(0, 12000), span(0, 50))
	for _, c := range []api.Cond{
		always(), termsOf(less("rain", api.MaxValue)), termsOf(most("draft", -api.MaxValue)), termsOf(is("rain", 0)), thirty(),
		termsOf(api.Term{}, not(0)), termsOf(api.Term{}, and(0, 0)), termsOf(api.Term{}, is("rain", 1), or(1, 0), and(2, 1), not(3)),
		termsOf(is("draft", 9), is("rain", 9), not(0)),
	} {
		if e := rule.CheckCond(f, c); e != api.OK {
			t.Errorf("%v: %d", c, e)
		}
	}
	longer := thirty()
	longer.Terms = append(longer.Terms, api.Term{})
	badLonger := termsOf(append([]api.Term{{Kind: 9}}, longer.Terms...)...)
	for _, x := range []struct {
		c api.Cond
		e api.Errno
	}{
		{api.Cond{}, api.ErrCond}, {termsOf([]api.Term{}...), api.ErrCond}, {longer, api.ErrLong}, {badLonger, api.ErrLong},
		{termsOf(not(0)), api.ErrCond}, {termsOf(and(0, 0)), api.ErrCond},
		{termsOf(less("", 1)), api.ErrName}, {termsOf(most("rains", 1)), api.ErrName}, {termsOf(is("rai", 1)), api.ErrName},
		// not used, but a term
		{termsOf(less("snow", 1), api.Term{}), api.ErrName},
		// term by term, and of a term ErrCond ahead of ErrName
		{termsOf(less("snow", 1), api.Term{Kind: 9}), api.ErrName},
		{termsOf(api.Term{Kind: 9}, less("snow", 1)), api.ErrCond},
		{termsOf(api.Term{Kind: api.TmLess, Name: "snow", A: 1}), api.ErrCond},
		{termsOf(api.Term{Kind: api.TmIs, Name: "snow", Num: api.MaxValue + 1}), api.ErrCond},
		{termsOf(api.Term{Kind: api.TmNot, Name: "snow"}), api.ErrCond},
	} {
		if e := rule.CheckCond(f, x.c); e != x.e {
			t.Errorf("%v: %d, want %d", x.c, e, x.e)
		}
	}
	for _, w := range wrongTerms() {
		if e := rule.CheckCond(f, termsOf(api.Term{}, w)); e != api.ErrCond {
			t.Errorf("%v: %d", w, e)
		}
		if e := rule.CheckCond(f, termsOf(api.Term{}, w, api.Term{})); e != api.ErrCond {
			t.Errorf("%v, which is not used: %d", w, e)
		}
	}
	if e := rule.CheckCond(nil, always()); e != api.OK {
		t.Error("without facts:", e)
	}
	if e := rule.CheckCond(nil, termsOf(less("rain", 1))); e != api.ErrName {
		t.Error("without the fact:", e)
	}
}

// manyFacts has n facts, and manyRules n rules of the example's.
func manyFacts(n int) []api.Fact {
	var l []api.Fact
	for i := range n {
		l = append(l, api.Fact{Name: "f" + strconv.Itoa(i)})
	}
	return l
}

func manyRules(n int) []api.Rule {
	var l []api.Rule
	for i := range n {
		l = append(l, api.Rule{Name: "r" + strconv.Itoa(i), When: always(), Must: always()})
	}
	return l
}

// sixUnless has seven rules, of which the last one names all others.
func sixUnless() api.Code {
	c := exampleC()
	c.Rules = manyRules(api.MaxUnless + 1)
	for _, r := range c.Rules[:api.MaxUnless] {
		c.Rules[api.MaxUnless].Unless = append(c.Rules[api.MaxUnless].Unless, r.Name)
	}
	return c
}

func TestCheckErrors(t *testing.T) {
	expectDefects(t, sixUnless, rule.Check, []defect[api.Code]{
		{"the code's name", func(c *api.Code) { c.Name = "must" }, api.ErrName},
		{"no facts", func(c *api.Code) { c.Facts = nil }, api.ErrCode},
		{"too many facts", func(c *api.Code) { c.Facts = append(c.Facts, manyFacts(api.MaxFacts-1)...) }, api.ErrLong},
		{"too many rules", func(c *api.Code) { c.Rules = append(c.Rules, manyRules(api.MaxRules)...) }, api.ErrLong},
	})
	expectDefects(t, sixUnless, rule.Check, []defect[api.Code]{
		{"too many facts", func(c *api.Code) { c.Facts = append(c.Facts, manyFacts(api.MaxFacts-1)...) }, api.ErrLong},
		{"a fact's name", func(c *api.Code) { c.Facts[0].Name = "Draft" }, api.ErrName},
		{"a value", func(c *api.Code) { c.Facts[0].Value = span(1, 0) }, api.ErrFact},
		{"a later fact's name", func(c *api.Code) { c.Facts[1].Name = c.Facts[0].Name }, api.ErrName},
		{"a later value", func(c *api.Code) { c.Facts[1].Value.Hi = api.MaxValue + 1 }, api.ErrFact},
		{"a rule's name", func(c *api.Code) { c.Rules[0].Name = "" }, api.ErrName},
		{"days", func(c *api.Code) { c.Rules[0].From = 1 }, api.ErrDay},
		{"when: terms", func(c *api.Code) { c.Rules[0].When.Terms = make([]api.Term, api.MaxTerms+1) }, api.ErrLong},
		{"must", func(c *api.Code) { c.Rules[0].Must.Terms = nil }, api.ErrCond},
		{"too many unless", func(c *api.Code) { c.Rules[0].Unless = make([]string, api.MaxUnless+1) }, api.ErrLong},
		{"unless", func(c *api.Code) { c.Rules[0].Unless = []string{"r0"} }, api.ErrRule},
		{"a later name", func(c *api.Code) { c.Rules[1].Name = c.Rules[0].Name }, api.ErrName},
	})
	// the conditions
	last := api.MaxUnless
	expectDefects(t, sixUnless, rule.Check, []defect[api.Code]{
		{"a late day", func(c *api.Code) { c.Rules[last].To = api.MaxDay + 1 }, api.ErrDay},
		{"when", func(c *api.Code) { c.Rules[last].When = termsOf(less("snow", 1)) }, api.ErrName},
		{"must", func(c *api.Code) { c.Rules[last].Must = termsOf(not(0)) }, api.ErrCond},
		{"unless", func(c *api.Code) { c.Rules[last].Unless[3] = "snow" }, api.ErrRule},
		{"cells", func(c *api.Code) {
			c.Rules[0].When, c.Rules[0].Must, c.Rules[1].Must = fine("draft", 2, 2), fine("draft", 1002, 3), fine("rain", 1, 2)
		}, api.ErrLong},
	})
}

// fine has MaxTerms terms, each of which parts the values of a fact at two numbers.
func fine(name string, from, step int) api.Cond {
	var c api.Cond
	for i := range api.MaxTerms {
		c.Terms = append(c.Terms, is(name, from+step*i))
	}
	return c
}

func TestCheckRules(t *testing.T) {
	for _, x := range []struct {
		from, to int
		e        api.Errno
	}{{0, 0, api.OK}, {0, api.MaxDay, api.OK}, {api.MaxDay, api.MaxDay, api.OK}, {5, 5, api.OK}, {5, 4, api.ErrDay}, {-1, 5, api.ErrDay}, {-1, -1, api.ErrDay}, {-2, -1, api.ErrDay},
		{0, api.MaxDay + 1, api.ErrDay}, {api.MaxDay + 1, api.MaxDay + 1, api.ErrDay}, {api.MaxDay + 1, 0, api.ErrDay}, {-1 << 63, 1<<63 - 1, api.ErrDay}} {
		c := exampleC()
		c.Rules[1].From, c.Rules[1].To = x.from, x.to
		if e := rule.Check(c); e != x.e {
			t.Errorf("from %d to %d: %d, want %d", x.from, x.to, e, x.e)
		}
	}
	for _, x := range []struct {
		unless []string
		e      api.Errno
	}{{nil, api.OK}, {[]string{}, api.OK}, {[]string{"deep", "tide"}, api.OK}, {[]string{"tide", "deep"}, api.OK},
		{[]string{"light"}, api.ErrRule}, {[]string{"deep", "deep"}, api.ErrRule}, {[]string{"tide", "deep", "tide"}, api.ErrRule}, {[]string{"Deep"}, api.ErrRule}, {[]string{""}, api.ErrRule},
		{[]string{"late"}, api.ErrRule}, {[]string{"draft"}, api.ErrRule}, {[]string{"port"}, api.ErrRule}} {
		c := exampleC()
		c.Rules[2].Unless = x.unless
		c.Rules = append(c.Rules, api.Rule{Name: "late", When: always(), Must: always()})
		if e := rule.Check(c); e != x.e {
			t.Errorf("unless %q: %d, want %d", x.unless, e, x.e)
		}
	}
	for _, x := range []struct {
		value api.Range
		e     api.Errno
	}{{span(-api.MaxValue, api.MaxValue), api.OK}, {one(api.MaxValue), api.OK}, {one(-api.MaxValue), api.OK}, {one(0), api.OK},
		{span(1, 0), api.ErrFact}, {span(-api.MaxValue-1, 0), api.ErrFact}, {span(0, api.MaxValue+1), api.ErrFact}, {one(api.MaxValue + 1), api.ErrFact}, {one(-api.MaxValue - 1), api.ErrFact}, {span(-1<<63, 1<<63-1), api.ErrFact}} {
		c := exampleC()
		c.Facts[0].Value = x.value
		if e := rule.Check(c); e != x.e {
			t.Errorf("the value %v: %d, want %d", x.value, e, x.e)
		}
	}
}

// product is a code whose facts have so many cuts.
func product(cuts ...int) api.Code {
	c := api.Code{Name: "product"}
	for i, n := range cuts {
		name := "f" + strconv.Itoa(i)
		c.Facts = append(c.Facts, api.Fact{Name: name, Value: span(0, 100)})
		for k := 1; k < n; k++ {
			if k == 1 || k%20 == 0 {
				c.Rules = append(c.Rules, api.Rule{Name: name + "r" + strconv.Itoa(k), To: api.MaxDay, When: always(), Must: api.Cond{}})
			}
			last := &c.Rules[len(c.Rules)-1].Must
			last.Terms = append(last.Terms, less(name, k))
		}
	}
	return c
}

func TestCheckLimits(t *testing.T) {
	facts := exampleC()
	facts.Facts = append(facts.Facts, manyFacts(api.MaxFacts-2)...)
	rules := exampleC()
	rules.Rules = append(rules.Rules, manyRules(api.MaxRules-3)...)
	for what, c := range map[string]api.Code{
		"facts": facts, "rules": rules, "unless": sixUnless(), "cells": product(10, 20, 20), "cells of one number": product(40, 1, 100, 1, 1), "no rules": {Name: "a", Facts: manyFacts(1)}, "cells of six facts": product(5, 5, 5, 4, 4, 2),
	} {
		if e := rule.Check(c); e != api.OK {
			t.Errorf("%s: %d", what, e)
		}
	}
	for what, c := range map[string]api.Code{"cells": product(7, 22, 26), "cells of six facts": product(5, 5, 5, 5, 4, 2), "first cells": product(100, 41), "greatest cells": product(30, 30, 30, 30, 30, 30)} {
		if e := rule.Check(c); e != api.ErrLong {
			t.Errorf("%s: %d", what, e)
		}
	}
	// Comparisons beyond the values part nothing.
	c := product(10, 20, 20)
	c.Rules[0].When = termsOf(less("f0", 0), most("f0", -1), is("f1", -1), less("f1", 101), most("f1", 100), is("f2", 101), is("f2", 0), most("f2", 1), less("f0", 2), api.Term{})
	if e := rule.Check(c); e != api.OK {
		t.Error(e)
	}
	// Also those that are not used do.
	c.Rules[0].When = termsOf(is("f0", 100), api.Term{})
	if e := rule.Check(c); e != api.ErrLong {
		t.Error(e)
	}
}

func TestNames(t *testing.T) {
	for _, x := range []struct {
		c    api.Cond
		want []string
	}{
		{api.Cond{}, nil},
		{always(), nil},
		{termsOf(less("rain", 1), most("draft", 2), is("rain", 3), api.Term{}), []string{"draft", "rain"}},
		{termsOf(less("b", 1), less("a1", 1), less("a", 1), less("ab", 1), less("aa", 1), or(0, 1)), []string{"a", "a1", "aa", "ab", "b"}},
		// conditions that are not valid
		{termsOf(less("z", api.MaxValue+1), less("Z", 1), and(7, -1), less("not", 0)), []string{"Z", "not", "z"}},
	} {
		if got := rule.Names(x.c); !slices.Equal(got, x.want) {
			t.Errorf("%v: %q, want %q", x.c, got, x.want)
		}
	}
	long := api.Cond{Terms: slices.Repeat(termsOf(less("b", 1), less("a", 1)).Terms, api.MaxTerms)}
	if got := rule.Names(long); strings.Join(got, " ") != "a b" {
		t.Error(got)
	}
}

// TestNamesByKind is the table of kinds: only comparisons name a fact, by whatever name, also in a condition that is not valid.
func TestNamesByKind(t *testing.T) {
	compares := map[int]bool{api.TmLess: true, api.TmMost: true, api.TmIs: true}
	for _, kind := range []int{math.MinInt, -1, api.TmTrue, api.TmLess, api.TmMost, api.TmIs, api.TmNot, api.TmAnd, api.TmOr, 7, 9, math.MaxInt} {
		for _, name := range append(goodNames(), badNames()...) {
			for _, x := range []api.Term{{}, {Num: 3}, {A: 1, B: -1}, {Num: math.MaxInt, A: 99}} {
				x.Kind, x.Name = kind, name
				var want []string
				if compares[kind] {
					want = []string{name}
				}
				if got := rule.Names(termsOf(x)); !slices.Equal(got, want) {
					t.Errorf("%+v: %q, want %q", x, got, want)
				}
				// A name counts once, and those of other terms are ahead of it or behind it.
				want = slices.Compact(slices.Sorted(slices.Values(append(want, "", "m"))))
				if got := rule.Names(termsOf(is("m", 1), x, less("", 0), x, most("m", 2))); !slices.Equal(got, want) {
					t.Errorf("%+v among others: %q, want %q", x, got, want)
				}
			}
		}
	}
}

func TestFind(t *testing.T) {
	c := exampleC()
	for name, want := range map[string]int{"deep": 0, "tide": 1, "light": 2, "dee": -1, "": -1, "draft": -1, "port": -1, "Deep": -1} {
		if got := rule.Find(c, name); got != want {
			t.Errorf("%q: %d, want %d", name, got, want)
		}
	}
	c.Rules[2].Name = "tide"
	c.Facts, c.Name = nil, ""
	if got := rule.Find(c, "tide"); got != 1 {
		t.Error("the first of two:", got)
	}
	if got := rule.Find(api.Code{}, "tide"); got != -1 {
		t.Error("of no rules:", got)
	}
}

func TestWith(t *testing.T) {
	late := api.Rule{Name: "late", From: 3, To: 9, When: always(), Must: termsOf(is("rain", 1)), Unless: []string{"deep", "light"}}
	want := exampleC()
	want.Rules = append(want.Rules, late)
	got, e := rule.With(exampleC(), late)
	if !sameCode(got, want) || e != api.OK {
		t.Errorf("%v %d", got, e)
	}
	none := api.Code{Name: "a", Facts: manyFacts(1)}
	got, e = rule.With(none, api.Rule{Name: "r", When: always(), Must: always()})
	if len(got.Rules) != 1 || e != api.OK {
		t.Errorf("to no rules: %v %d", got, e)
	}
	full := exampleC()
	full.Rules = manyRules(api.MaxRules)
	bad := exampleC()
	bad.Rules[0].Must = api.Cond{}
	same, days, cells := late, late, late
	same.Name, days.From, cells.Must = "tide", 10, fine("rain", 1, 2)
	coarse := exampleC()
	coarse.Rules[0].When, coarse.Rules[0].Must = fine("draft", 2, 3), fine("draft", 1002, 3)
	for _, x := range []struct {
		what string
		c    api.Code
		r    api.Rule
		e    api.Errno
	}{{"a full code", full, api.Rule{Name: "late", When: always(), Must: always()}, api.ErrLong}, {"a bad code", bad, same, api.ErrCond}, {"a name that is there", exampleC(), same, api.ErrName},
		{"days", exampleC(), days, api.ErrDay}, {"no rule", exampleC(), api.Rule{}, api.ErrName}, {"cells", coarse, cells, api.ErrLong}, {"no code", api.Code{}, late, api.ErrName}} {
		if got, e := rule.With(x.c, x.r); !sameCode(got, api.Code{}) || e != x.e {
			t.Errorf("%s: %v %d, want %d", x.what, got, e, x.e)
		}
	}
}
