package rule_test

import (
	"math/rand"
	"runtime"
	"slices"
	"strconv"
	"strings"
	"testing"

	"ullage/api"
	"ullage/rule"
)

func expectCond(t *testing.T, text string, want api.Cond, word int, e api.Errno) {
	t.Helper()
	got, w, f := rule.ParseCond(text)
	if !sameCond(got, want) || w != word || f != e {
		t.Errorf("ParseCond(%.300q): %v %d %d, want %v %d %d", text, got, w, f, want, word, e)
	}
}

func TestParseCond(t *testing.T) {
	for text, want := range map[string]api.Cond{
		"rain >= 10 or not draft = 3": termsOf(less("rain", 10), not(0), is("draft", 3), not(2), or(1, 3)),
		"true":                        always(),
		"a < 1":                       termsOf(less("a", 1)),
		"a <= 1":                      termsOf(most("a", 1)),
		"a = 1":                       termsOf(is("a", 1)),
		"a >= 1":                      termsOf(less("a", 1), not(0)),
		"a > 1":                       termsOf(most("a", 1), not(0)),
		"a != 1":                      termsOf(is("a", 1), not(0)),
		"not true":                    termsOf(api.Term{}, not(0)),
		"not a >= 1":                  termsOf(less("a", 1), not(0), not(1)),
		"not not a = 1":               termsOf(is("a", 1), not(0), not(1)),
		"( ( a = 1 ) )":               termsOf(is("a", 1)),
		"  a    <  1  ":               termsOf(less("a", 1)),
		// joined from the left
		"a < 1 and b < 2 and c < 3": termsOf(less("a", 1), less("b", 2), and(0, 1), less("c", 3), and(2, 3)),
		"a < 1 or b < 2 or c < 3":   termsOf(less("a", 1), less("b", 2), or(0, 1), less("c", 3), or(2, 3)),
		"a < 1 or b < 2 and c < 3":  termsOf(less("a", 1), less("b", 2), less("c", 3), and(1, 2), or(0, 3)),
		"a < 1 and b < 2 or c < 3":  termsOf(less("a", 1), less("b", 2), and(0, 1), less("c", 3), or(2, 3)),
		// parentheses
		"a < 1 and ( b < 2 and c < 3 )":   termsOf(less("a", 1), less("b", 2), less("c", 3), and(1, 2), and(0, 3)),
		"a < 1 or ( b < 2 or c < 3 )":     termsOf(less("a", 1), less("b", 2), less("c", 3), or(1, 2), or(0, 3)),
		"( a < 1 or b < 2 ) and c < 3":    termsOf(less("a", 1), less("b", 2), or(0, 1), less("c", 3), and(2, 3)),
		"not ( a < 1 or b < 2 ) and true": termsOf(less("a", 1), less("b", 2), or(0, 1), not(2), api.Term{}, and(3, 4)),
		"not a < 1 and b < 2":             termsOf(less("a", 1), not(0), less("b", 2), and(1, 2)),
		"not a < 1 or b < 2":              termsOf(less("a", 1), not(0), less("b", 2), or(1, 2)),
		// numbers
		"a = 0":              termsOf(is("a", 0)),
		"a = -7":             termsOf(is("a", -7)),
		"a = 1000000000000":  termsOf(is("a", api.MaxValue)),
		"a = -1000000000000": termsOf(is("a", -api.MaxValue)),
		// names
		"abcdefghij12 = 1": termsOf(is("abcdefghij12", 1)),
		"truer = 1":        termsOf(is("truer", 1)),
		// just deep enough
		"not not not not not not not not true":              termsOf(api.Term{}, not(0), not(1), not(2), not(3), not(4), not(5), not(6), not(7)),
		"( ( ( ( ( ( ( ( true ) ) ) ) ) ) ) )":              always(),
		"not ( not ( not ( not ( a != 1 ) ) ) )":            termsOf(is("a", 1), not(0), not(1), not(2), not(3), not(4)),
		"( ( ( ( true ) ) ) ) and ( ( ( ( ( true ) ) ) ) )": termsOf(api.Term{}, api.Term{}, and(0, 1)),
	} {
		expectCond(t, text, want, 0, api.OK)
	}
}

func TestParseCondErrors(t *testing.T) {
	for _, x := range []struct {
		text string
		word int
	}{
		// something is missing
		{"", 1}, {"   ", 1}, {"a", 2}, {"a <", 3}, {"not", 2}, {"(", 2}, {"( true", 3}, {"( a < 1", 5}, {"true and", 3}, {"true or", 3}, {"a < 1 and b", 6}, {"( true and not", 5},
		{"( ( true )", 5}, {"  a  <  ", 3}, {"( ( ( ( ( ( ( (", 9}, {"not not not not not not not not", 9},
		// what may not stand where it stands
		{")", 1}, {"( )", 2}, {"true )", 2}, {"( true ) )", 4}, {"and", 1}, {"or true", 1}, {"true true", 2}, {"true and and true", 3}, {"true or or true", 3}, {"true not true", 2}, {"not and true", 2}, {"true ( true )", 2},
		{"a < 1 b", 4}, {"a < 1 < 2", 4}, {"a < b", 3}, {"1 < a", 1}, {"a a", 2}, {"a 1", 2}, {"a and b", 2}, {"true < 1", 2}, {"( a ) < 1", 3}, {"a not < 1", 2}, {"a < not 1", 3}, {"a < ( 1 )", 3}, {"not < 1", 2},
		{"a == 1", 2}, {"a => 1", 2}, {"a =< 1", 2}, {"a <> 1", 2}, {"a ! 1", 2}, {"a < = 1", 3}, {"a<1", 1}, {"a< 1", 1}, {"a <1", 2}, {"(true)", 1}, {"( true)", 2}, {"a < 1)", 3}, {"a < 1 AND true", 4}, {"True", 1},
		// words of the language are no names
		{"must < 1", 1}, {"when < 1", 1}, {"unless < 1", 1}, {"code < 1", 1}, {"fact < 1", 1}, {"rule < 1", 1}, {"or < 1", 1}, {"true and must < 1", 3}, {"a < 1 must true", 4}, {"a < 1 unless b", 4},
		{"A < 1", 1}, {"abcdefghijklm < 1", 1}, {"1a < 1", 1}, {"a_b < 1", 1},
		// numbers of another form
		{"a < 01", 3}, {"a < -0", 3}, {"a < +1", 3}, {"a < -01", 3}, {"a < 00", 3}, {"a < -", 3}, {"a < - 1", 3}, {"a < --1", 3}, {"a < 1.0", 3}, {"a < 1e3", 3}, {"a < 0x1", 3}, {"a < 1_0", 3}, {"a < 1a", 3}, {"a < \u0661", 3},
		{"a < 1000000000001", 3}, {"a < -1000000000001", 3}, {"a < 9999999999999", 3}, {"a < 10000000000000", 3}, {"a < 9223372036854775808", 3}, {"a < 18446744073709551617", 3},
		// no other byte parts words
		{"a\t< 1", 1}, {"a <\t1", 2}, {"a < 1\n", 3}, {"a < 1 \n", 4}, {"\na < 1", 1}, {"a < 1\r", 3}, {"a\u00a0< 1", 1}, {"a < 1\x00", 3}, {"\xff", 1}, {"true\nand true", 1}, {"\n", 1},
		{"# a < 1", 1}, {"#", 1}, {"a < 1 # b", 4},
		// too deep: the word of its own
		{"not not not not not not not not not true", 9}, {"( ( ( ( ( ( ( ( ( true ) ) ) ) ) ) ) ) )", 9}, {"( not ( not ( not ( not ( true ) ) ) ) )", 9}, {"not ( not ( not ( not ( not true ) ) ) )", 9}, {"not ( not ( not ( not ( not", 9},
		{"true and ( ( ( ( ( ( ( ( ( 7", 11}, {"( ( ( ( true ) ) ) ) and ( ( ( ( ( ( ( ( ( true", 19}, {"not not not not true and not not not not not not not not not true", 15},
		// the first one
		{"a < 01 and", 3}, {"( a < 1 ) ) and <", 6}, {"must must must", 1},
	} {
		expectCond(t, x.text, api.Cond{}, x.word, api.ErrForm)
	}
}

func TestParseCondLimits(t *testing.T) {
	// 30 terms: 15 of true, 14 of and, and one not
	fourteen := strings.Repeat("true and ", 14)
	c, word, e := rule.ParseCond(fourteen + "not true")
	if len(c.Terms) != api.MaxTerms || word != 0 || e != api.OK {
		t.Error(len(c.Terms), word, e)
	}
	expectCond(t, fourteen+"not not true", api.Cond{}, 0, api.ErrLong)
	expectCond(t, fourteen+"not a >= 1", api.Cond{}, 0, api.ErrLong)
	expectCond(t, strings.Repeat("true and ", 15)+"true", api.Cond{}, 0, api.ErrLong)
	// A word that may not stand where it stands comes first.
	expectCond(t, fourteen+"not not true )", api.Cond{}, 32, api.ErrForm)
	expectCond(t, strings.Repeat("true and ", 500), api.Cond{}, 1001, api.ErrForm)
	expectCond(t, strings.Repeat("true and ", 500)+"true", api.Cond{}, 0, api.ErrLong)
	// bytes
	spaces := strings.Repeat(" ", api.MaxSource-4)
	expectCond(t, spaces+"true", always(), 0, api.OK)
	expectCond(t, spaces+"true ", api.Cond{}, 0, api.ErrLong)
	expectCond(t, spaces+"true)", api.Cond{}, 0, api.ErrLong)
	expectCond(t, strings.Repeat(" ", api.MaxSource), api.Cond{}, 1, api.ErrForm)
	expectCond(t, strings.Repeat("( ", api.MaxSource/2), api.Cond{}, 9, api.ErrForm)
	expectCond(t, strings.Repeat("not ", api.MaxSource/4), api.Cond{}, 9, api.ErrForm)
	expectCond(t, strings.Repeat("x", api.MaxSource+1), api.Cond{}, 0, api.ErrLong)
}

// expression is a text, the terms that it is read as, and how deep it is.
type expression struct {
	words []string
	terms []api.Term
	deep  int
}

// behind adds terms that stand behind others.
func behind(a, b []api.Term) []api.Term {
	l := slices.Clone(a)
	for _, t := range b {
		if t.Kind >= api.TmNot {
			t.A += len(a)
		}
		if t.Kind >= api.TmAnd {
			t.B += len(a)
		}
		l = append(l, t)
	}
	return l
}

// inParentheses writes an expression in parentheses.
func (x expression) inParentheses() expression {
	return expression{slices.Concat([]string{"("}, x.words, []string{")"}), x.terms, x.deep + 1}
}

// joinedBy joins two expressions.
func (x expression) joinedBy(word string, kind int, y expression) expression {
	l := behind(x.terms, y.terms)
	l = append(l, api.Term{Kind: kind, A: len(x.terms) - 1, B: len(l) - 1})
	return expression{slices.Concat(x.words, []string{word}, y.words), l, max(x.deep, y.deep)}
}

// randomSingle, randomAll and randomEither are what the grammar's ONE, ALL and COND may be.
func randomSingle(r *rand.Rand, n int) expression {
	switch {
	case n > 0 && r.Intn(3) == 0:
		x := randomSingle(r, n-1)
		return expression{slices.Concat([]string{"not"}, x.words), append(slices.Clone(x.terms), not(len(x.terms)-1)), x.deep + 1}
	case n > 0 && r.Intn(2) == 0:
		return randomEither(r, n-1).inParentheses()
	case r.Intn(6) == 0:
		return expression{words: []string{"true"}, terms: []api.Term{{}}}
	}
	name, i, number := string("abc"[r.Intn(3)]), r.Intn(6), r.Intn(7)-3
	kind := 1 + i%3
	x := expression{words: []string{name, []string{"<", "<=", "=", ">=", ">", "!="}[i], strconv.Itoa(number)}, terms: []api.Term{{Kind: kind, Name: name, Num: number}}}
	if i >= 3 {
		x.terms = append(x.terms, not(0))
	}
	return x
}

func randomAll(r *rand.Rand, n int) expression {
	x := randomSingle(r, n)
	for r.Intn(3) == 0 {
		x = x.joinedBy("and", api.TmAnd, randomSingle(r, n))
	}
	return x
}

func randomEither(r *rand.Rand, n int) expression {
	x := randomAll(r, n)
	for r.Intn(3) == 0 {
		x = x.joinedBy("or", api.TmOr, randomAll(r, n))
	}
	return x
}

// TestParseExpressions is P4.6, too: what is read is printed as a text that is read as the same.
func TestParseExpressions(t *testing.T) {
	r := rand.New(rand.NewSource(61))
	good, deep, long := 0, 0, 0
	for range 6000 {
		x := randomEither(r, 1+r.Intn(10))
		text := strings.Join(x.words, " ")
		switch {
		case len(text) > api.MaxSource:
			expectCond(t, text, api.Cond{}, 0, api.ErrLong)
		case x.deep > api.MaxDeep:
			deep++
			expectCond(t, text, api.Cond{}, firstWrong(x.words), api.ErrForm)
		case len(x.terms) > api.MaxTerms:
			long++
			expectCond(t, text, api.Cond{}, 0, api.ErrLong)
		default:
			good++
			want := api.Cond{Terms: x.terms}
			expectCond(t, text, want, 0, api.OK)
			again, e := rule.PrintCond(want)
			if e != api.OK {
				t.Errorf("PrintCond of %q: %d", text, e)
			}
			expectCond(t, again, want, 0, api.OK)
		}
	}
	if good < 2000 || deep < 300 || long < 300 {
		t.Error("too few cases:", good, deep, long)
	}
}

// firstWrong is the number of the first word such that no condition begins with the words up to it; one more than there are if words are missing; 0 if nothing is wrong.
func firstWrong(words []string) int {
	const part, operator, number, joint = 0, 1, 2, 3
	var open []string // "(" and "not" that the next word stands within
	want := part
	for i, w := range words {
		ok := false
		switch want {
		case part:
			switch {
			case w == "(" || w == "not":
				open = append(open, w)
				ok = len(open) <= api.MaxDeep
			case w == "true":
				ok, want = true, joint
			case w == "a" || w == "b" || w == "c":
				ok, want = true, operator
			}
		case operator:
			ok, want = slices.Contains([]string{"<", "<=", ">", ">=", "=", "!="}, w), number
		case number:
			n, err := strconv.Atoi(w)
			ok, want = err == nil && strconv.Itoa(n) == w, joint
		case joint:
			switch {
			case w == "and" || w == "or":
				ok, want = true, part
			case w == ")" && len(open) > 0:
				ok, open = true, open[:len(open)-1]
			}
		}
		if !ok {
			return i + 1
		}
		for want == joint && len(open) > 0 && open[len(open)-1] == "not" {
			open = open[:len(open)-1]
		}
	}
	if want != joint || len(open) > 0 {
		return len(words) + 1
	}
	return 0
}

// TestFirstWrongWord changes words of expressions.
func TestFirstWrongWord(t *testing.T) {
	r := rand.New(rand.NewSource(62))
	all := strings.Fields("true not and or ( ) a b c < <= > >= = != 0 1 -1 01 -0 must x! ab! not ( ( not")
	seen := map[int]int{}
	for range 12000 {
		words := randomEither(r, r.Intn(10)).words
		for range 1 + r.Intn(2) {
			i, w := r.Intn(len(words)), all[r.Intn(len(all))]
			switch r.Intn(3) {
			case 0:
				words = slices.Replace(slices.Clone(words), i, i+1, w)
			case 1:
				words = slices.Insert(slices.Clone(words), i, w)
			default:
				words = slices.Delete(slices.Clone(words), i, i+1)
			}
			if len(words) == 0 {
				break
			}
		}
		text := strings.Join(words, strings.Repeat(" ", 1+r.Intn(2)))
		want := firstWrong(words)
		c, word, e := rule.ParseCond(text)
		switch {
		case len(text) > api.MaxSource:
		case want > 0 && (e != api.ErrForm || word != want || len(c.Terms) > 0), want == 0 && e != api.OK && e != api.ErrLong, want == 0 && word != 0:
			t.Fatalf("%q: %d %d, want %d", text, word, e, want)
		}
		seen[min(want, 20)]++
	}
	for i := range 21 {
		if seen[i] < 20 {
			t.Error("too few cases:", i, seen[i])
		}
	}
}

// written is the text of a term, from the chapter.
func written(c api.Cond, i int) string {
	t := c.Terms[i]
	in := func(i int, kinds ...int) string {
		if slices.Contains(kinds, c.Terms[i].Kind) {
			return "( " + written(c, i) + " )"
		}
		return written(c, i)
	}
	compare := func(t api.Term, words ...string) string {
		return t.Name + " " + words[t.Kind-api.TmLess] + " " + strconv.Itoa(t.Num)
	}
	switch t.Kind {
	case api.TmTrue:
		return "true"
	case api.TmNot:
		if a := c.Terms[t.A]; a.Kind >= api.TmLess && a.Kind <= api.TmIs {
			return compare(a, ">=", ">", "!=")
		}
		return "not " + in(t.A, api.TmAnd, api.TmOr)
	case api.TmAnd:
		return in(t.A, api.TmOr) + " and " + in(t.B, api.TmAnd, api.TmOr)
	case api.TmOr:
		return in(t.A) + " or " + in(t.B, api.TmOr)
	}
	return compare(t, "<", "<=", "=")
}

// termsOfText counts the terms that a text is read as.
func termsOfText(text string) int {
	n := 0
	for _, w := range strings.Fields(text) {
		switch w {
		case "true", "not", "and", "or", "<", "<=", "=":
			n++
		case ">=", ">", "!=":
			n += 2
		}
	}
	return n
}

func expectText(t *testing.T, c api.Cond, want string, e api.Errno) {
	t.Helper()
	got, f := rule.PrintCond(c)
	if got != want || f != e {
		t.Errorf("PrintCond of %v: %q %d, want %q %d", c, got, f, want, e)
	}
}

// wantText is what PrintCond must tell of a condition with few terms, all as they must be.
func wantText(c api.Cond) (string, api.Errno) {
	text := written(c, len(c.Terms)-1)
	switch {
	case firstWrong(strings.Fields(text)) > 0: // too deep
		return "", api.ErrCond
	case len(text) > api.MaxSource || termsOfText(text) > api.MaxTerms:
		return "", api.ErrLong
	}
	return text, api.OK
}

func TestPrintCond(t *testing.T) {
	for _, x := range []struct {
		c    api.Cond
		want string
	}{
		{termsOf(less("rain", 10), not(0), is("draft", 3), not(2), or(1, 3)), "rain >= 10 or draft != 3"},
		{always(), "true"},
		{termsOf(api.Term{}, not(0)), "not true"},
		{termsOf(less("a", -1)), "a < -1"}, {termsOf(most("a", 0)), "a <= 0"}, {termsOf(is("abcdefghij12", api.MaxValue)), "abcdefghij12 = 1000000000000"},
		{termsOf(less("a", 1), not(0)), "a >= 1"}, {termsOf(most("a", 1), not(0)), "a > 1"}, {termsOf(is("a", 1), not(0)), "a != 1"},
		{termsOf(is("a", 1), not(0), not(1), not(2)), "not not a != 1"},
		{termsOf(less("a", 1), less("b", 2), and(0, 1), not(2)), "not ( a < 1 and b < 2 )"},
		{termsOf(less("a", 1), less("b", 2), or(0, 1), not(2)), "not ( a < 1 or b < 2 )"},
		{termsOf(less("a", 1), less("b", 2), and(0, 1), and(2, 2)), "a < 1 and b < 2 and ( a < 1 and b < 2 )"},
		{termsOf(less("a", 1), less("b", 2), or(0, 1), or(2, 2)), "a < 1 or b < 2 or ( a < 1 or b < 2 )"},
		{termsOf(less("a", 1), less("b", 2), or(0, 1), and(2, 2)), "( a < 1 or b < 2 ) and ( a < 1 or b < 2 )"},
		{termsOf(less("a", 1), less("b", 2), and(0, 1), or(2, 2)), "a < 1 and b < 2 or a < 1 and b < 2"},
		{termsOf(less("a", 1), not(0), api.Term{}, not(2), and(1, 3), or(3, 1)), "not true or a >= 1"},
		// what the last term does not use is not printed
		{termsOf(less("a", 1), less("b", 2), and(0, 1), not(0)), "a >= 1"},
	} {
		expectText(t, x.c, x.want, api.OK)
	}
}

// joinedCond is a condition whose last terms join those ahead, which makes long texts.
func joinedCond(r *rand.Rand, f []api.Fact) api.Cond {
	c := randomCond(r, f, 3)
	for range r.Intn(10) {
		n := len(c.Terms)
		kind, a, b := api.TmNot+r.Intn(3), n-1, r.Intn(n)
		if r.Intn(2) == 0 {
			a, b = b, a
		}
		t := api.Term{Kind: kind, A: a, B: b}
		if kind == api.TmNot {
			t.A, t.B = n-1, 0
		}
		c.Terms = append(c.Terms, t)
	}
	return c
}

// TestPrintConditions: P4.6 for conditions of any terms.
func TestPrintConditions(t *testing.T) {
	r := rand.New(rand.NewSource(63))
	f := []api.Fact{{Name: "a", Value: span(-2, 2)}, {Name: "b", Value: span(0, 3)}}
	seen := map[api.Errno]int{}
	for range 6000 {
		c := joinedCond(r, f)
		text, e := wantText(c)
		expectText(t, c, text, e)
		seen[e]++
		if e != api.OK {
			continue
		}
		again, word, e := rule.ParseCond(text)
		if word != 0 || e != api.OK || len(again.Terms) != termsOfText(text) {
			t.Fatalf("%q: %v %d %d", text, again, word, e)
		}
		for _, values := range every(f) {
			if condSo(f, again, values) != condSo(f, c, values) {
				t.Fatalf("%v is printed as %q, which is not so for the same values", c, text)
			}
		}
	}
	if seen[api.OK] < 2000 || seen[api.ErrCond] < 50 || seen[api.ErrLong] < 50 {
		t.Error("too few cases:", seen)
	}
}

// nots has n times TmNot behind a condition.
func nots(c api.Cond, n int) api.Cond {
	c = api.Cond{Terms: slices.Clone(c.Terms)}
	for range n {
		c.Terms = append(c.Terms, not(len(c.Terms)-1))
	}
	return c
}

// doubled has n times a term that uses the one ahead twice.
func doubled(kind, n int) api.Cond {
	c := always()
	for i := range n {
		c.Terms = append(c.Terms, api.Term{Kind: kind, A: i, B: i})
	}
	return c
}

func TestPrintCondLimits(t *testing.T) {
	expectText(t, nots(always(), 8), "not not not not not not not not true", api.OK)
	expectText(t, nots(always(), 9), "", api.ErrCond)
	expectText(t, nots(termsOf(is("a", 1)), 9), "not not not not not not not not a != 1", api.OK)
	expectText(t, nots(termsOf(is("a", 1)), 10), "", api.ErrCond)
	pair := termsOf(api.Term{}, or(0, 0))
	expectText(t, nots(pair, 7), "not not not not not not not ( true or true )", api.OK)
	expectText(t, nots(pair, 8), "", api.ErrCond)
	// deep, but not used
	unused := nots(always(), 12)
	unused.Terms = append(unused.Terms, less("a", 1))
	expectText(t, unused, "a < 1", api.OK)
	// parentheses of the right side
	right := func(n int) api.Cond {
		c := always()
		for i := range n {
			c.Terms = append(c.Terms, and(0, i))
		}
		return c
	}
	expectText(t, right(9), "true and ( true and ( true and ( true and ( true and ( true and ( true and ( true and ( true and true ) ) ) ) ) ) ) )", api.OK)
	expectText(t, right(10), "", api.ErrCond)
	// how many terms a text is read as
	left := always()
	for i := range 14 {
		left.Terms = append(left.Terms, and(i, 0))
	}
	expectText(t, left, strings.Repeat("true and ", 14)+"true", api.OK)
	expectText(t, nots(left, 1), "not ( "+strings.Repeat("true and ", 14)+"true )", api.OK)
	expectText(t, nots(left, 2), "", api.ErrLong)
	left.Terms = append(left.Terms, or(14, 0))
	expectText(t, left, "", api.ErrLong)
	expectText(t, doubled(api.TmOr, 3), "true or true or ( true or true ) or ( true or true or ( true or true ) )", api.OK)
	expectText(t, doubled(api.TmOr, 4), "", api.ErrLong)
	expectText(t, doubled(api.TmAnd, 9), "", api.ErrLong)
	// Too deep comes ahead of too long.
	expectText(t, doubled(api.TmAnd, 10), "", api.ErrCond)
	expectText(t, doubled(api.TmOr, api.MaxTerms-1), "", api.ErrCond)
	// What would be doubled is not written.
	var before, behind runtime.MemStats
	runtime.ReadMemStats(&before)
	rule.PrintCond(doubled(api.TmOr, api.MaxTerms-1))
	runtime.ReadMemStats(&behind)
	if n := behind.TotalAlloc - before.TotalAlloc; n > 1<<20 {
		t.Error("bytes to print what is too long:", n)
	}
	mixed := always()
	for i := range api.MaxTerms - 1 {
		mixed.Terms = append(mixed.Terms, or(i, 0))
		if i%4 == 3 {
			mixed.Terms[i+1] = or(i, i)
		}
	}
	expectText(t, mixed, "", api.ErrLong)
	// the longest text
	c := termsOf(most("abcdefghij12", -api.MaxValue+1))
	for range 14 {
		c.Terms = append(c.Terms, c.Terms[0])
	}
	for i := range 14 {
		c.Terms = append(c.Terms, and(len(c.Terms)-1, i))
	}
	c.Terms[15].A = 14
	expectText(t, nots(c, 1), "not ( "+strings.Repeat("abcdefghij12 <= -999999999999 and ", 14)+"abcdefghij12 <= -999999999999 )", api.OK)
}

func TestPrintCondErrors(t *testing.T) {
	longer := api.Cond{Terms: make([]api.Term, api.MaxTerms+1)}
	for _, c := range []api.Cond{{}, termsOf([]api.Term{}...), longer} {
		expectText(t, c, "", api.ErrCond)
	}
	full := api.Cond{Terms: longer.Terms[1:]}
	expectText(t, full, "true", api.OK)
	for _, w := range wrongTerms() {
		expectText(t, termsOf(api.Term{}, w), "", api.ErrCond)
		expectText(t, termsOf(api.Term{}, w, api.Term{}), "", api.ErrCond)
	}
	for _, name := range badNames() {
		expectText(t, termsOf(less(name, 1)), "", api.ErrCond)
		expectText(t, termsOf(is(name, 1), api.Term{}), "", api.ErrCond)
	}
	for _, name := range goodNames() {
		expectText(t, termsOf(less(name, 1)), name+" < 1", api.OK)
	}
	// ErrCond of a term ahead of ErrLong
	bad := doubled(api.TmOr, 5)
	bad.Terms[0] = less("A", 1)
	expectText(t, bad, "", api.ErrCond)
}
