package rule_test

import (
	"math/rand"
	"reflect"
	"slices"
	"strings"
	"testing"

	"ullage/api"
	"ullage/rule"
)

// request is what the functions of a code are asked.
type request struct {
	c         api.Code
	rule, day int
	f         []api.Fact
	name      string
}

func exampleRequest() request {
	return request{exampleC(), 1, 60, exampleF(span(9001, 9100), one(20)), "draft"}
}

// call asks one function; result has all that it returns but the error.
type call struct {
	what             string
	which, day, fact bool // what it takes beside the code
	do               func(q request) (result []any, e api.Errno)
}

// calls has all functions that take a code and return an error.
func calls() []call {
	return []call{
		{"Check", false, false, false, func(q request) ([]any, api.Errno) { return nil, rule.Check(q.c) }},
		{"With", false, false, false, func(q request) ([]any, api.Errno) {
			d, e := rule.With(q.c, api.Rule{Name: "late", When: always(), Must: always(), Unless: []string{"deep"}})
			return []any{d}, e
		}},
		{"Print", false, false, false, func(q request) ([]any, api.Errno) { s, e := rule.Print(q.c); return []any{s}, e }},
		{"InForce", false, true, false, func(q request) ([]any, api.Errno) { l, e := rule.InForce(q.c, q.day); return []any{l}, e }},
		{"Days", false, false, false, func(q request) ([]any, api.Errno) { l, e := rule.Days(q.c); return []any{l}, e }},
		{"Cells", false, false, false, func(q request) ([]any, api.Errno) { l, e := rule.Cells(q.c); return []any{l}, e }},
		{"Binds", true, true, true, func(q request) ([]any, api.Errno) {
			n, e := rule.Binds(q.c, q.rule, q.day, q.f)
			return []any{n}, e
		}},
		{"Judge", false, true, true, func(q request) ([]any, api.Errno) { l, e := rule.Judge(q.c, q.day, q.f); return []any{l}, e }},
		{"Kept", false, true, true, func(q request) ([]any, api.Errno) { n, e := rule.Kept(q.c, q.day, q.f); return []any{n}, e }},
		{"Breaks", false, true, true, func(q request) ([]any, api.Errno) {
			i, l, e := rule.Breaks(q.c, q.day, q.f)
			return []any{i, l}, e
		}},
		{"Rests", false, true, true, func(q request) ([]any, api.Errno) { l, e := rule.Rests(q.c, q.day, q.f); return []any{l}, e }},
		{"Allowed", false, true, true, func(q request) ([]any, api.Errno) {
			l, e := rule.Allowed(q.c, q.day, q.f, q.name)
			return []any{l}, e
		}},
		{"Clashes", false, false, false, func(q request) ([]any, api.Errno) { l, e := rule.Clashes(q.c); return []any{l}, e }},
		{"CheckClash", false, false, false, func(q request) ([]any, api.Errno) {
			return nil, rule.CheckClash(q.c, api.Clash{J: 2, Values: []int{0, 0}})
		}},
		{"Idle", false, false, false, func(q request) ([]any, api.Errno) { l, e := rule.Idle(q.c); return []any{l}, e }},
		{"Witness", true, false, false, func(q request) ([]any, api.Errno) { x, e := rule.Witness(q.c, q.rule); return []any{x}, e }},
		{"CheckWitness", true, false, false, func(q request) ([]any, api.Errno) {
			return nil, rule.CheckWitness(q.c, q.rule, api.Case{Day: 100, Values: []int{9501, 10}})
		}},
	}
}

// isNothing reports whether results are zero values; empty lists count as such.
func isNothing(results []any) bool {
	for _, x := range results {
		v := reflect.ValueOf(x)
		if v.Kind() == reflect.Slice && v.Len() > 0 || v.Kind() != reflect.Slice && !v.IsZero() {
			return false
		}
	}
	return true
}

// TestErrorsOfCodes is the order of errors of all functions that take a code.
func TestErrorsOfCodes(t *testing.T) {
	for _, f := range calls() {
		l := []defect[request]{
			{"a name", func(q *request) { q.c.Name = "9" }, api.ErrName},
			{"a fact of the code", func(q *request) { q.c.Facts[1].Value = span(51, 50) }, api.ErrFact},
			{"a rule's days", func(q *request) { q.c.Rules[0].From = 100 }, api.ErrDay},
			{"a rule's condition", func(q *request) { q.c.Rules[1].Must = api.Cond{} }, api.ErrCond},
			{"a rule's unless", func(q *request) { q.c.Rules[2].Unless = []string{"late"} }, api.ErrRule},
		}
		add := func(takes bool, e api.Errno, dos map[string]func(q *request)) {
			if !takes {
				return
			}
			for what, do := range dos {
				l = append(l, defect[request]{what, do, e})
			}
		}
		add(f.which, api.ErrWhich, map[string]func(q *request){
			"a rule behind the last one": func(q *request) { q.rule = 3 }, "a rule below 0": func(q *request) { q.rule = -1 }, "a great rule": func(q *request) { q.rule = 1<<63 - 1 },
		})
		add(f.day, api.ErrDay, map[string]func(q *request){
			"a day below 0": func(q *request) { q.day = -1 }, "a late day": func(q *request) { q.day = api.MaxDay + 1 }, "the least day": func(q *request) { q.day = -1 << 63 },
		})
		add(f.fact, api.ErrFact, map[string]func(q *request){
			"few facts":      func(q *request) { q.f = exampleF(one(1), one(1))[:1] },
			"no facts":       func(q *request) { q.f = nil },
			"many facts":     func(q *request) { q.f = append(exampleF(one(1), one(1)), api.Fact{Name: "snow"}) },
			"facts reversed": func(q *request) { q.f = exampleF(one(1), one(1)); q.f[0], q.f[1] = q.f[1], q.f[0] },
			"another name":   func(q *request) { q.f = exampleF(one(1), one(1)); q.f[1].Name = "snow" },
			"below":          func(q *request) { q.f = exampleF(span(-1, 5), one(1)) },
			"above":          func(q *request) { q.f = exampleF(one(1), span(0, 51)) },
			"no range":       func(q *request) { q.f = exampleF(span(2, 1), one(1)) },
		})
		add(f.what == "Allowed", api.ErrName, map[string]func(q *request){
			"no such fact": func(q *request) { q.name = "snow" }, "a rule's name": func(q *request) { q.name = "deep" }, "an empty name": func(q *request) { q.name = "" }, "the code's name": func(q *request) { q.name = "port" },
		})
		expectDefects(t, exampleRequest, func(q request) api.Errno {
			results, e := f.do(q)
			if e != api.OK && !isNothing(results) {
				t.Errorf("%s: %v with the error %d", f.what, results, e)
			}
			return e
		}, l)
	}
}

// TestEndsOfFacts: facts may have all values of the code's facts, or one; days may be the first and the last one.
func TestEndsOfFacts(t *testing.T) {
	for _, f := range [][]api.Fact{exampleC().Facts, exampleF(one(0), one(0)), exampleF(one(12000), one(50))} {
		for _, day := range []int{0, api.MaxDay} {
			if _, e := rule.Judge(exampleC(), day, f); e != api.OK {
				t.Error(f, day, e)
			}
		}
	}
}

// TestArgumentsAreKept is R4: no argument is changed, and what is returned is new.
func TestArgumentsAreKept(t *testing.T) {
	for _, f := range calls() {
		q := exampleRequest()
		want, e := f.do(exampleRequest())
		results, _ := f.do(q)
		if !reflect.DeepEqual(q, exampleRequest()) {
			t.Errorf("%s has changed its arguments: %v", f.what, q)
		}
		// What changes a result changes neither the arguments nor what is told later.
		for _, x := range results {
			spoil(reflect.ValueOf(x))
		}
		again, e2 := f.do(q)
		if !reflect.DeepEqual(q, exampleRequest()) || !reflect.DeepEqual(again, want) || e != e2 {
			t.Errorf("%s: %v %d, at first %v %d", f.what, again, e2, want, e)
		}
	}
	c := termsOf(less("b", 1), less("a", 2), and(0, 1))
	f := []api.Fact{{Name: "b"}, {Name: "a"}}
	rule.Names(c)
	rule.Holds(f, c)
	rule.PrintCond(c)
	rule.CheckCond(f, c)
	if !sameCond(c, termsOf(less("b", 1), less("a", 2), and(0, 1))) || !slices.Equal(f, []api.Fact{{Name: "b"}, {Name: "a"}}) {
		t.Error(c, f)
	}
}

// spoil changes all elements of lists.
func spoil(v reflect.Value) {
	switch v.Kind() {
	case reflect.Slice:
		for i := range v.Len() {
			spoil(v.Index(i))
			v.Index(i).SetZero()
		}
	case reflect.Struct:
		for i := range v.NumField() {
			spoil(v.Field(i))
		}
	}
}

// TestWithIsNew: the code that With returns shares nothing with its arguments.
func TestWithIsNew(t *testing.T) {
	c := exampleC()
	r := api.Rule{Name: "late", When: cond(t, "rain < 4"), Must: cond(t, "rain < 5"), Unless: []string{"deep"}}
	d, e := rule.With(c, r)
	if e != api.OK {
		t.Fatal(e)
	}
	spoil(reflect.ValueOf(d))
	if !reflect.DeepEqual(c, exampleC()) || r.When.Terms[0] != less("rain", 4) || r.Must.Terms[0] != less("rain", 5) || r.Unless[0] != "deep" {
		t.Error(c, r)
	}
	// There may be room behind the rules of c.
	c.Rules = append(make([]api.Rule, 0, 9), c.Rules...)
	d, _ = rule.With(c, r)
	r.Name = "other"
	if other, e := rule.With(c, r); e != api.OK || d.Rules[3].Name != "late" || other.Rules[3].Name != "other" {
		t.Error(d, other, e)
	}
}

// TestListsOfOneResult: two lists of one result share no memory.
func TestListsOfOneResult(t *testing.T) {
	c := code(t, "code x\nfact a 0 9\nfact b 0 9\nrule p 0 9 when true must a < 1 and b < 1\nrule q 0 9 when true must a = 2 and b = 2\nrule s 0 9 when true must a = 4 and b = 4\n")
	l, e := rule.Clashes(c)
	if len(l) != 3 || e != api.OK {
		t.Fatal(l, e)
	}
	l[0].Values[0] = 77
	l[0].Values = append(l[0].Values, 78)
	if l[1].Values[0] != 0 || l[2].Values[0] != 0 {
		t.Error(l)
	}
	cells, _ := rule.Cells(c)
	cells[0] = append(cells[0], 77)
	if !slices.Equal(cells[1], []int{0, 1, 2, 3, 4, 5}) {
		t.Error(cells)
	}
	d := code(t, strings.ReplaceAll(exampleText, "rain < 10 must draft > 9200", "rain < 10 must draft > 9200 unless tide deep"))
	d.Rules[0].When.Terms = append(d.Rules[0].When.Terms, not(0))
	if d.Rules[0].Must.Terms[0] != most("draft", 9000) || d.Rules[1].When.Terms[0] != less("rain", 10) {
		t.Error(d)
	}
}

// TestNarrower is P4.3.
func TestNarrower(t *testing.T) {
	sureAnswers := 0
	trials(72, 400, func(r *rand.Rand, c api.Code) {
		day, f := someDays()[r.Intn(9)], randomFacts(r, c)
		narrow := randomFacts(r, api.Code{Facts: f})
		wide, e := rule.Judge(c, day, f)
		got, e2 := rule.Judge(c, day, narrow)
		if e != api.OK || e2 != api.OK {
			t.Fatal(e, e2)
		}
		stays := func(what string, a, b int) {
			if a != api.Maybe && a != b {
				t.Errorf("%s of %v on the day %d is %d with %v, %d with %v", what, c, day, a, f, b, narrow)
			}
			if a != api.Maybe {
				sureAnswers++
			}
		}
		for i, v := range wide {
			stays("Binds", v.Binds, got[i].Binds)
			stays("Kept", v.Kept, got[i].Kept)
		}
		a, _ := rule.Kept(c, day, f)
		b, _ := rule.Kept(c, day, narrow)
		stays("Kept of all", a, b)
		x := randomCond(r, c.Facts, 8)
		a, _ = rule.Holds(f, x)
		b, _ = rule.Holds(narrow, x)
		stays("Holds", a, b)
	})
	if sureAnswers < 1000 {
		t.Error("too few cases:", sureAnswers)
	}
}

// TestRestsAndAllowed is P4.4.
func TestRestsAndAllowed(t *testing.T) {
	left, allowed := 0, 0
	trials(73, 400, func(r *rand.Rand, c api.Code) {
		day, f := someDays()[r.Intn(9)], randomFacts(r, c)
		kept, _ := rule.Kept(c, day, f)
		rests, _ := rule.Rests(c, day, f)
		for i, x := range c.Facts {
			if kept != api.Maybe && !slices.Contains(rests, x.Name) {
				left++
				g := sure(f, i, randomFacts(r, c)[i].Value)
				if n, e := rule.Kept(c, day, g); n != kept || e != api.OK {
					t.Errorf("%v on the day %d: %d with %v, %d with %v", c, day, kept, f, n, g)
				}
			}
			runs, _ := rule.Allowed(c, day, f, x.Name)
			for n := f[i].Value.Lo; n <= f[i].Value.Hi; n++ {
				_, _, e := rule.Breaks(c, day, sure(f, i, one(n)))
				if in := slices.ContainsFunc(runs, func(r api.Range) bool { return r.Lo <= n && n <= r.Hi }); in != (e == api.ErrNone) {
					t.Errorf("%v on the day %d with %v: %v are allowed of %s, but with %d: %d", c, day, f, runs, x.Name, n, e)
				}
				allowed++
			}
		}
	})
	if left < 200 || allowed < 1000 {
		t.Error("too few cases:", left, allowed)
	}
}

// TestNothingChangesBetweenDays is P4.7.
func TestNothingChangesBetweenDays(t *testing.T) {
	trials(74, 150, func(r *rand.Rand, c api.Code) {
		days, e := rule.Days(c)
		if e != api.OK {
			t.Fatal(e)
		}
		days = append(days, api.MaxDay+1)
		f := randomFacts(r, c)
		for i, day := range days[:len(days)-1] {
			want, _ := rule.Judge(c, day, f)
			force, _ := rule.InForce(c, day)
			for _, later := range []int{days[i+1] - 1, day + r.Intn(days[i+1]-day)} {
				got, e := rule.Judge(c, later, f)
				l, _ := rule.InForce(c, later)
				expectVerdicts(t, c, later, f, got, e, want, api.OK)
				if !slices.Equal(l, force) {
					t.Errorf("%v: %v on the day %d, %v on the day %d", c, force, day, l, later)
				}
			}
		}
	})
}

// widest is a code with as much of all as may be: facts, rules, terms and cells.
func widest() api.Code {
	c := product(5, 5, 5, 4, 4, 2)
	for i := range c.Facts {
		c.Facts[i].Value = span(-api.MaxValue, api.MaxValue)
	}
	rules := manyRules(api.MaxRules)
	for i := range rules {
		rules[i].From, rules[i].To = i, api.MaxDay-i
		for _, x := range []*api.Cond{&rules[i].When, &rules[i].Must} {
			x.Terms = nil
			for k := range api.MaxTerms / 2 {
				from := c.Rules[(i+k)%len(c.Rules)].Must.Terms
				x.Terms = append(x.Terms, from[k%len(from)])
			}
			for k := range api.MaxTerms / 2 {
				x.Terms = append(x.Terms, api.Term{Kind: api.TmAnd + (i+k)%2, A: len(x.Terms) - 1, B: k})
			}
		}
		for k := range min(i, api.MaxUnless) {
			rules[i].Unless = append(rules[i].Unless, rules[i-1-k].Name)
		}
	}
	c.Rules = rules
	return c
}

// TestWidest: all functions come to an end, soon enough, for as much as may be.
func TestWidest(t *testing.T) {
	c := widest()
	cells, e := rule.Cells(c)
	n := 1
	for _, l := range cells {
		n *= len(l)
	}
	if n != api.MaxCells || e != api.OK {
		t.Fatal(cells, e)
	}
	for _, f := range calls() {
		for i := range c.Rules {
			q := request{c, i, 50, c.Facts, "f0"}
			// There is no room for a rule more, and the text is too long.
			if _, e := f.do(q); e != api.OK && e != api.ErrNone && e != api.ErrRule && (e != api.ErrLong || f.what != "With" && f.what != "Print") {
				t.Errorf("%s: %d", f.what, e)
			}
			if !f.which {
				break
			}
		}
	}
}

// odd is a number that may be valid, or anything else.
func odd(r *rand.Rand) int {
	return []int{0, 1, 2, 3, 5, -1, 7, 10, 99, 4, 1<<63 - 1, -1 << 63, api.MaxValue, api.MaxValue + 1, api.MaxDay, api.MaxDay + 1}[r.Intn(16)]
}

// oddCode breaks a code at some places.
func oddCode(r *rand.Rand, c api.Code) api.Code {
	name := func() string { return []string{"", "a", "b", "r0", "r1", "not", "A", "\xff"}[r.Intn(8)] }
	fields := []func(){func() { c.Name = name() }}
	for i := range c.Facts {
		f := &c.Facts[i]
		fields = append(fields, func() { f.Name = name() }, func() { f.Value.Lo = odd(r) }, func() { f.Value.Hi = odd(r) })
	}
	for i := range c.Rules {
		x := &c.Rules[i]
		fields = append(fields, func() { x.Name = name() }, func() { x.From = odd(r) }, func() { x.To = odd(r) }, func() { x.Unless = append(x.Unless, name()) })
		for _, y := range []*api.Cond{&x.When, &x.Must} {
			t := &y.Terms[r.Intn(len(y.Terms))]
			fields = append(fields, func() { t.Kind = odd(r) }, func() { t.A = odd(r) }, func() { t.B = odd(r) }, func() { t.Num = odd(r) }, func() { t.Name = name() }, func() { y.Terms = nil })
		}
	}
	for range 1 + r.Intn(3) {
		fields[r.Intn(len(fields))]()
	}
	return c
}

// TestAnyArguments is P1: no function panics, and with an error all else is nothing.
func TestAnyArguments(t *testing.T) {
	seen := map[api.Errno]int{}
	trials(75, 3000, func(r *rand.Rand, c api.Code) {
		f := randomFacts(r, c)
		q := request{oddCode(r, c), odd(r), odd(r), f, "a"}
		if r.Intn(3) == 0 {
			q.f = q.c.Facts
		}
		for _, x := range calls() {
			results, e := x.do(q)
			if e != api.OK && !isNothing(results) {
				t.Errorf("%s of %v: %v with the error %d", x.what, q, results, e)
			}
			seen[e]++
		}
		rule.Find(q.c, "r1")
		for _, x := range q.c.Rules {
			rule.Names(x.When)
			s, e := rule.PrintCond(x.Must)
			n, e2 := rule.Holds(q.f, x.When)
			if e != api.OK && s != "" || e2 != api.OK && n != 0 {
				t.Errorf("%v: %q %d, %d %d", x, s, e, n, e2)
			}
			rule.CheckCond(q.f, x.When)
		}
	})
	for _, e := range []api.Errno{api.OK, api.ErrNone, api.ErrName, api.ErrCond, api.ErrRule, api.ErrFact, api.ErrDay, api.ErrWhich} {
		if seen[e] < 100 {
			t.Error("too few cases:", e, seen[e])
		}
	}
}

// TestZeroValues: nil and empty arguments are no codes.
func TestZeroValues(t *testing.T) {
	for _, f := range calls() {
		for _, c := range []api.Code{{}, {Facts: []api.Fact{}, Rules: []api.Rule{}}} {
			if results, e := f.do(request{c: c}); e != api.ErrName || !isNothing(results) {
				t.Errorf("%s: %v %d", f.what, results, e)
			}
		}
	}
	// A list that is empty is like one that is nil.
	c := exampleC()
	c.Rules[0].Unless = []string{}
	if e := rule.Check(c); e != api.OK {
		t.Error(e)
	}
	if s, e := rule.Print(c); s != exampleText || e != api.OK {
		t.Error(s, e)
	}
}

// TestAnyTexts: no text makes Parse and ParseCond panic.
func TestAnyTexts(t *testing.T) {
	r := rand.New(rand.NewSource(76))
	words := strings.Fields("code fact rule when must unless and or not true ( ) < <= > >= = != a b x r0 0 1 -1 9 01 -0 # \xff a\x00 1000000000001")
	for range 5000 {
		b := strings.Builder{}
		if r.Intn(2) == 0 {
			b.WriteString("code x\nfact a 0 9\n")
		}
		for range r.Intn(40) {
			b.WriteString(words[r.Intn(len(words))])
			b.WriteString([]string{" ", " ", " ", "  ", "\n", "\t", ""}[r.Intn(7)])
		}
		c, line, e := rule.Parse(b.String())
		if e != api.OK && !sameCode(c, api.Code{}) || e != api.ErrForm && line != 0 || e == api.ErrForm && (line < 1 || line > strings.Count(b.String(), "\n")+2) {
			t.Errorf("%q: %v %d %d", b.String(), c, line, e)
		}
		x, word, e := rule.ParseCond(b.String())
		if e != api.OK && !sameCond(x, api.Cond{}) || e != api.ErrForm && word != 0 || e == api.ErrForm && (word < 1 || word > len(strings.Split(b.String(), " "))+1) {
			t.Errorf("%q: %v %d %d", b.String(), x, word, e)
		}
	}
}
