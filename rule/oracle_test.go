package rule_test

import (
	"math/rand"
	"slices"
	"strconv"
	"testing"

	"ullage/api"
	"ullage/rule"
)

const exampleText = `code port
fact draft 0 12000
fact rain 0 50
rule deep 0 99 when true must draft <= 9000
rule tide 50 200 when rain >= 10 must draft <= 9500 unless deep
rule light 0 200 when rain < 10 must draft > 9200
`

// exampleC is the code of the chapter's examples, term by term.
func exampleC() api.Code {
	return api.Code{
		Name:  "port",
		Facts: exampleF(span(0, 12000), span(0, 50)),
		Rules: []api.Rule{
			{Name: "deep", To: 99, When: always(), Must: termsOf(most("draft", 9000))},
			{Name: "tide", From: 50, To: 200, When: termsOf(less("rain", 10), not(0)), Must: termsOf(most("draft", 9500)), Unless: []string{"deep"}},
			{Name: "light", To: 200, When: termsOf(less("rain", 10)), Must: termsOf(most("draft", 9200), not(0))},
		},
	}
}

func exampleF(draft, rain api.Range) []api.Fact {
	return []api.Fact{{Name: "draft", Value: draft}, {Name: "rain", Value: rain}}
}

func span(lo, hi int) api.Range { return api.Range{Lo: lo, Hi: hi} }
func one(n int) api.Range       { return span(n, n) }

func termsOf(l ...api.Term) api.Cond { return api.Cond{Terms: l} }
func always() api.Cond               { return termsOf(api.Term{}) }

func less(name string, n int) api.Term { return api.Term{Kind: api.TmLess, Name: name, Num: n} }
func most(name string, n int) api.Term { return api.Term{Kind: api.TmMost, Name: name, Num: n} }
func is(name string, n int) api.Term   { return api.Term{Kind: api.TmIs, Name: name, Num: n} }
func not(a int) api.Term               { return api.Term{Kind: api.TmNot, A: a} }
func and(a, b int) api.Term            { return api.Term{Kind: api.TmAnd, A: a, B: b} }
func or(a, b int) api.Term             { return api.Term{Kind: api.TmOr, A: a, B: b} }

// cond reads a condition that is right.
func cond(t *testing.T, text string) api.Cond {
	t.Helper()
	c, word, e := rule.ParseCond(text)
	if word != 0 || e != api.OK {
		t.Fatalf("ParseCond(%q): %d %d", text, word, e)
	}
	return c
}

// code reads a code that is right.
func code(t *testing.T, text string) api.Code {
	t.Helper()
	c, line, e := rule.Parse(text)
	if line != 0 || e != api.OK {
		t.Fatalf("Parse(%q): %d %d", text, line, e)
	}
	return c
}

// valueOf is the value of the first fact with this name.
func valueOf(f []api.Fact, values []int, name string) int {
	for i, x := range f {
		if x.Name == name {
			return values[i]
		}
	}
	panic("no such fact: " + name)
}

// isSo tells whether a term of a condition is so, from the chapter's table.
func isSo(f []api.Fact, c api.Cond, i int, values []int) bool {
	t := c.Terms[i]
	switch t.Kind {
	case api.TmLess:
		return valueOf(f, values, t.Name) < t.Num
	case api.TmMost:
		return valueOf(f, values, t.Name) <= t.Num
	case api.TmIs:
		return valueOf(f, values, t.Name) == t.Num
	case api.TmNot:
		return !isSo(f, c, t.A, values)
	case api.TmAnd:
		return isSo(f, c, t.A, values) && isSo(f, c, t.B, values)
	case api.TmOr:
		return isSo(f, c, t.A, values) || isSo(f, c, t.B, values)
	}
	return true
}

func condSo(f []api.Fact, c api.Cond, values []int) bool { return isSo(f, c, len(c.Terms)-1, values) }

// bindsAt tells whether a rule binds on a day with some values.
func bindsAt(c api.Code, i, day int, values []int) bool {
	r := c.Rules[i]
	if day < r.From || day > r.To || !condSo(c.Facts, r.When, values) {
		return false
	}
	for k := range i {
		if slices.Contains(r.Unless, c.Rules[k].Name) && bindsAt(c, k, day, values) {
			return false
		}
	}
	return true
}

func keptAt(c api.Code, i, day int, values []int) bool {
	return !bindsAt(c, i, day, values) || condSo(c.Facts, c.Rules[i].Must, values)
}

// brokenAt are the rules that are broken.
func brokenAt(c api.Code, day int, values []int) []int {
	var l []int
	for i := range c.Rules {
		if !keptAt(c, i, day, values) {
			l = append(l, i)
		}
	}
	return l
}

// every has all values of facts, in the order of lists.
func every(f []api.Fact) [][]int {
	if len(f) == 0 {
		return [][]int{nil}
	}
	var all [][]int
	for n := f[0].Value.Lo; n <= f[0].Value.Hi; n++ {
		for _, rest := range every(f[1:]) {
			all = append(all, append([]int{n}, rest...))
		}
	}
	return all
}

// answerFor goes through all values.
func answerFor(f []api.Fact, so func(values []int) bool) int {
	seen := [2]bool{}
	for _, values := range every(f) {
		if so(values) {
			seen[1] = true
		} else {
			seen[0] = true
		}
	}
	switch seen {
	case [2]bool{true, false}:
		return api.No
	case [2]bool{false, true}:
		return api.Yes
	}
	return api.Maybe
}

func wantKept(c api.Code, day int, f []api.Fact) int {
	return answerFor(f, func(values []int) bool { return len(brokenAt(c, day, values)) == 0 })
}

// sure are the facts, but one of them has this value.
func sure(f []api.Fact, i int, value api.Range) []api.Fact {
	g := slices.Clone(f)
	g[i].Value = value
	return g
}

// wantCells finds the values at which some comparison is other than for the value ahead.
func wantCells(c api.Code) [][]int {
	var all [][]int
	for _, f := range c.Facts {
		l := []int{f.Value.Lo}
		for n := f.Value.Lo + 1; n <= f.Value.Hi; n++ {
			if slices.ContainsFunc(c.Rules, func(r api.Rule) bool { return changes(f, r.When, n) || changes(f, r.Must, n) }) {
				l = append(l, n)
			}
		}
		all = append(all, l)
	}
	return all
}

func changes(f api.Fact, c api.Cond, n int) bool {
	for _, t := range c.Terms {
		if t.Name == f.Name && condSo([]api.Fact{f}, termsOf(t), []int{n - 1}) != condSo([]api.Fact{f}, termsOf(t), []int{n}) {
			return true
		}
	}
	return false
}

// someDays has each day on which a code of randomCode may change, and some more.
func someDays() []int {
	return []int{0, 1, 2, 3, 4, 5, 6, 7, 8, 9, 50, api.MaxDay - 1, api.MaxDay}
}

// randomRange has few numbers.
func randomRange(r *rand.Rand) api.Range {
	lo := r.Intn(6) - 3
	return span(lo, lo+r.Intn(5))
}

// randomCond is a valid condition of up to n terms; some are not used, and some are used twice.
func randomCond(r *rand.Rand, f []api.Fact, n int) api.Cond {
	var c api.Cond
	for i := range 1 + r.Intn(n) {
		kind := 1 + r.Intn(6)
		if r.Intn(12) == 0 {
			kind = api.TmTrue
		}
		if i == 0 && kind >= api.TmNot {
			kind -= 3
		}
		t := api.Term{Kind: kind}
		switch kind {
		case api.TmTrue:
		case api.TmLess, api.TmMost, api.TmIs:
			x := f[r.Intn(len(f))]
			t.Name, t.Num = x.Name, x.Value.Lo+r.Intn(x.Value.Hi-x.Value.Lo+1)
			if r.Intn(4) == 0 {
				t.Num += r.Intn(7) - 3
			}
		case api.TmNot:
			t.A = r.Intn(i)
		default:
			t.A, t.B = r.Intn(i), r.Intn(i)
		}
		c.Terms = append(c.Terms, t)
	}
	return c
}

// randomDays is from a day to one, among someDays.
func randomDays(r *rand.Rand) (int, int) {
	switch r.Intn(6) {
	case 0:
		return r.Intn(9), api.MaxDay - r.Intn(2)
	case 1:
		return api.MaxDay - 1, api.MaxDay - r.Intn(2)
	}
	from := r.Intn(r.Intn(9) + 1)
	return from, 8 - r.Intn(r.Intn(9-from)+1)
}

// randomCode is a valid code with few values.
func randomCode(r *rand.Rand) api.Code {
	c := api.Code{Name: "random"}
	for _, name := range []string{"b", "a", "c"}[:1+r.Intn(3)] {
		c.Facts = append(c.Facts, api.Fact{Name: name, Value: randomRange(r)})
	}
	for i := range r.Intn(6) {
		x := api.Rule{Name: "r" + strconv.Itoa(i), When: randomCond(r, c.Facts, 6), Must: randomCond(r, c.Facts, 6)}
		x.From, x.To = randomDays(r)
		for _, k := range r.Perm(i) {
			if r.Intn(3) == 0 {
				x.Unless = append(x.Unless, c.Rules[k].Name)
			}
		}
		c.Rules = append(c.Rules, x)
	}
	return c
}

// randomFacts are facts for a code.
func randomFacts(r *rand.Rand, c api.Code) []api.Fact {
	var l []api.Fact
	for _, f := range c.Facts {
		lo := f.Value.Lo + r.Intn(f.Value.Hi-f.Value.Lo+1)
		hi := lo + r.Intn(f.Value.Hi-lo+1)
		if r.Intn(3) == 0 {
			lo, hi = f.Value.Lo, f.Value.Hi
		}
		l = append(l, api.Fact{Name: f.Name, Value: span(lo, hi)})
	}
	return l
}

// trials calls do with random codes.
func trials(seed int64, n int, do func(r *rand.Rand, c api.Code)) {
	r := rand.New(rand.NewSource(seed))
	for range n {
		do(r, randomCode(r))
	}
}

// sameCond and sameCode take nil and empty lists for the same.
func sameCond(a, b api.Cond) bool { return slices.Equal(a.Terms, b.Terms) }

func sameRule(a, b api.Rule) bool {
	return a.Name == b.Name && a.From == b.From && a.To == b.To && sameCond(a.When, b.When) && sameCond(a.Must, b.Must) && slices.Equal(a.Unless, b.Unless)
}

func sameCode(a, b api.Code) bool {
	return a.Name == b.Name && slices.Equal(a.Facts, b.Facts) && slices.EqualFunc(a.Rules, b.Rules, sameRule)
}
