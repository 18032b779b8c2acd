package rule_test

import (
	"math/rand"
	"strconv"
	"strings"
	"testing"

	"ullage/api"
	"ullage/rule"
)

func expectCode(t *testing.T, text string, want api.Code, line int, e api.Errno) {
	t.Helper()
	got, l, f := rule.Parse(text)
	if !sameCode(got, want) || l != line || f != e {
		t.Errorf("Parse(%.300q): %v %d %d, want %v %d %d", text, got, l, f, want, line, e)
	}
}

func TestParse(t *testing.T) {
	r := api.Rule{Name: "r", To: 1, When: always(), Must: termsOf(less("a", 1))}
	plain := api.Code{Name: "x", Facts: []api.Fact{{Name: "a", Value: span(0, 1)}}, Rules: []api.Rule{r}}
	facts := api.Code{Name: "x", Facts: plain.Facts}
	extremes := api.Code{Name: "x", Facts: []api.Fact{{Name: "a", Value: span(-api.MaxValue, api.MaxValue)}, {Name: "b", Value: one(-1)}}}
	late := plain
	late.Rules = []api.Rule{{Name: "r", From: api.MaxDay, To: api.MaxDay, When: r.When, Must: r.Must}}
	for _, x := range []struct {
		text string
		want api.Code
	}{
		{exampleText, exampleC()},
		{strings.TrimSuffix(exampleText, "\n"), exampleC()},
		{"code x\nfact a 0 1\nrule r 0 1 when true must a < 1\n", plain},
		{"code x\nrule r 0 1 when true must a < 1\nfact a 0 1", plain},
		{"# x\n\n  \n#code y\ncode x\n\n#\nfact a 0 1\n#\t\r\xff\nrule r 0 1 when true must a < 1\n\n#", plain},
		{"  code   x  \n fact  a  0  1\n   rule r 0 1   when   true   must a < 1   ", plain},
		{"code x\nfact a 0 1", facts},
		{"code x\nfact a -1000000000000 1000000000000\nfact b -1 -1\n", extremes},
		{"code x\nfact a 0 1\nrule r 100000 100000 when true must a < 1", late},
	} {
		expectCode(t, x.text, x.want, 0, api.OK)
	}
	// conditions between all words
	c := code(t, "code x\nfact a 0 1\nrule p 0 1 when ( a < 1 or true ) and not a = 1 must not ( a >= 1 )\nrule q 0 1 when a > 0 must a != 1 unless p\nrule s 0 1 when a > 0 must a != 1 unless q p\n")
	want := api.Code{Name: "x", Facts: plain.Facts, Rules: []api.Rule{
		{Name: "p", To: 1, When: termsOf(less("a", 1), api.Term{}, or(0, 1), is("a", 1), not(3), and(2, 4)), Must: termsOf(less("a", 1), not(0), not(1))},
		{Name: "q", To: 1, When: termsOf(most("a", 0), not(0)), Must: termsOf(is("a", 1), not(0)), Unless: []string{"p"}},
		{Name: "s", To: 1, When: termsOf(most("a", 0), not(0)), Must: termsOf(is("a", 1), not(0)), Unless: []string{"q", "p"}},
	}}
	if !sameCode(c, want) {
		t.Error(c)
	}
}

// wrongLines are no lines of a code, wherever they stand behind the first line.
func wrongLines() []string {
	return []string{
		"code x", "code y", "code", "x", " #", " # fact b 0 1", "must", "facts b 0 1", "Fact b 0 1", "true", "\t", "\r", "fact\tb 0 1",
		"fact", "fact b", "fact b 0", "fact b 0 1 2", "fact b 0 1 #", "fact b 0 1\r", "fact B 0 1", "fact true 0 1", "fact abcdefghijklm 0 1", "fact 0 1", "fact b x 1", "fact b 0 x",
		"fact b 00 1", "fact b 0 01", "fact b -0 1", "fact b 0 -0", "fact b +0 1", "fact b 0 +1", "fact b 0 1.0", "fact b - 1", "fact b 10000000000000 1", "fact b 0 10000000000000", "fact b -10000000000000 1", "fact b 0 18446744073709551617", "fact b 0 1 unless r",
		"rule", "rule s", "rule s 0", "rule s 0 1", "rule s 0 1 when", "rule s 0 1 when true", "rule s 0 1 when true must", "rule s 0 1 must true", "rule s 0 1 must true when true", "rule s 0 1 true must true", "rule s 0 1 when true true",
		"rule s 0 1 when must true", "rule s 0 1 when true must unless r", "rule s 0 1 when true must true unless", "rule s 0 1 when true must true unless must", "rule s 0 1 when true must true unless R", "rule s 0 1 when true must true unless r unless r", "rule s 0 1 when true must true unless r 7",
		"rule s 0 1 when true unless r", "rule s 0 1 when true unless r must true", "rule s 0 1 when true must true must true", "rule s 0 1 when true when true must true", "rule s 0 1 when true must true r", "rule s 0 1 when true must true unless r, q",
		"rule S 0 1 when true must true", "rule or 0 1 when true must true", "rule 0 1 when true must true", "rule s -1 1 when true must true", "rule s 0 -1 when true must true", "rule s -0 1 when true must true", "rule s 00 1 when true must true", "rule s 0 01 when true must true", "rule s 0 +1 when true must true",
		"rule s 10000000000000 1 when true must true", "rule s 0 10000000000000 when true must true", "rule s x 1 when true must true", "rule s 0 1 when a <1 must true", "rule s 0 1 when a < 1 or must true", "rule s 0 1 when ( true must true )", "rule s 0 1 when ( true ) ) must true",
		"rule s 0 1 when a < 1000000000001 must true", "rule s 0 1 when true must a > -1000000000001", "rule s 0 1 when true must a < 01", "rule s 0 1 when true must not", "rule s 0 1 when true must true )",
		"rule s 0 1 when not not not not not not not not not true must true", "rule s 0 1 when true must ( ( ( ( ( ( ( ( ( true ) ) ) ) ) ) ) ) )",
		"rule s 0 1 when " + strings.Repeat("true and ", 15) + "true must true", "rule s 0 1 when true must not not " + strings.Repeat("true and ", 14) + "true", "rule s 0 1 when true must not not " + strings.Repeat("true and ", 14) + "true unless r",
	}
}

func TestParseForms(t *testing.T) {
	for _, w := range wrongLines() {
		expectCode(t, "code x\nfact a 0 1\nrule r 0 1 when true must a < 1\n"+w+"\n", api.Code{}, 4, api.ErrForm)
		expectCode(t, "\n#\ncode x\n\n"+w, api.Code{}, 5, api.ErrForm)
		// The first line that is wrong decides, also ahead of what Check would tell.
		expectCode(t, "code x\nfact b 1 0\nfact b 1 0\n"+w+"\ncode y\n", api.Code{}, 4, api.ErrForm)
		expectCode(t, "code x\nrule r 5 1 when b < 1 must a < 1 unless z z\n\n"+w+"\n"+w, api.Code{}, 4, api.ErrForm)
	}
	// Thirty terms may be.
	c := code(t, "code x\nfact a 0 1\nrule r 0 1 when not "+strings.Repeat("true and ", 14)+"true must "+strings.Repeat("true and ", 14)+"not true\n")
	if len(c.Rules) != 1 || len(c.Rules[0].When.Terms) != api.MaxTerms || len(c.Rules[0].Must.Terms) != api.MaxTerms {
		t.Error(c)
	}
	for _, x := range []struct {
		text string
		line int
	}{
		// no line says anything
		{"", 1}, {"\n", 2}, {"\n\n", 3}, {"#", 2}, {"#\n", 2}, {"   ", 2}, {"#\n ", 3}, {"\n#code x\n\n", 4},
		// the first line that says something
		{"fact a 0 1\n", 1}, {"fact a 0 1\ncode x\n", 1}, {"\n\nrule r 0 1 when true must true", 3}, {"code\n", 1}, {"code x y\n", 1}, {"code X", 1}, {"code code", 1}, {"code abcdefghijklm", 1}, {"#\ncode 1\n", 2}, {" #\ncode x\n", 1}, {"codex\n", 1}, {"x code\n", 1},
		{"code x\nfact a 0 1\ncode x\n", 3}, {"code x\ncode y", 2}, {"code x\r\nfact a 0 1\r\n", 1}, {"code x\n\n\nfact a 0 1 fact b 0 1", 4}, {"code x fact a 0 1", 1},
	} {
		expectCode(t, x.text, api.Code{}, x.line, api.ErrForm)
	}
}

// TestParseChecks: what has the right form, but is no code.
func TestParseChecks(t *testing.T) {
	many := ""
	for i := range api.MaxRules + 1 {
		many += "rule r" + strconv.Itoa(i) + " 0 1 when true must true\n"
	}
	cells := ""
	for i := range 3 {
		when, must := "a = 1", "b = 1"
		for k := range 14 {
			n := strconv.Itoa(3 + 28*i + 2*k)
			when, must = when+" or a = "+n, must+" or b = "+n
		}
		cells += "rule r" + strconv.Itoa(i) + " 0 1 when " + when + " must " + must + "\n"
	}
	for _, x := range []struct {
		text string
		e    api.Errno
	}{
		{"code x\n", api.ErrCode}, {"code x\nrule r 0 1 when a < 1 must true\n", api.ErrCode},
		{"code x\nfact a 0 1\nfact a 0 1\n", api.ErrName}, {"code x\nfact a 1 0\n", api.ErrFact}, {"code x\nfact a 0 1000000000001\n", api.ErrFact}, {"code x\nfact a -9999999999999 9999999999999\n", api.ErrFact},
		{"code x\nfact a 0 1\nfact b 0 1\nfact c 0 1\nfact d 0 1\nfact e 0 1\nfact f 0 1\nfact g 0 1\n", api.ErrLong}, {"code x\nfact a 0 1\n" + many, api.ErrLong}, {"code x\nfact a 0 99\nfact b 0 99\n" + cells, api.ErrLong},
		{"code x\nfact a 0 1\nrule r 0 1 when true must b < 1\n", api.ErrName}, {"code x\nfact a 0 1\nrule r 0 1 when b < 1 must true\n", api.ErrName},
		{"code x\nfact a 0 1\nrule r 0 1 when true must true\nrule r 0 1 when true must true\n", api.ErrName},
		{"code x\nfact a 0 1\nrule r 2 1 when true must a < 1\n", api.ErrDay}, {"code x\nfact a 0 1\nrule r 0 100001 when true must a < 1\n", api.ErrDay}, {"code x\nfact a 0 1\nrule r 0 9999999999999 when true must a < 1\n", api.ErrDay},
		{"code x\nfact a 0 1\nrule r 0 1 when true must a < 1 unless s\n", api.ErrRule}, {"code x\nfact a 0 1\nrule r 0 1 when true must a < 1 unless r\n", api.ErrRule},
		{"code x\nfact a 0 1\nrule r 0 1 when true must a < 1 unless s\nrule s 0 1 when true must true\n", api.ErrRule}, {"code x\nfact a 0 1\nrule s 0 1 when true must true\nrule r 0 1 when true must a < 1 unless s s\n", api.ErrRule},
		{"code x\nfact a 0 1\nrule r 0 1 when true must true unless a b c d e f g\n", api.ErrLong},
	} {
		expectCode(t, x.text, api.Code{}, 0, x.e)
	}
}

func TestParseLimits(t *testing.T) {
	pad := func(n int) string { return exampleText + "#" + strings.Repeat("x", n-len(exampleText)-1) }
	expectCode(t, pad(api.MaxSource), exampleC(), 0, api.OK)
	expectCode(t, pad(api.MaxSource)+"\n", api.Code{}, 0, api.ErrLong)
	expectCode(t, strings.Repeat("x", api.MaxSource+1), api.Code{}, 0, api.ErrLong)
	expectCode(t, strings.Repeat("\n", api.MaxSource), api.Code{}, api.MaxSource+1, api.ErrForm)
	expectCode(t, strings.Repeat("\n", api.MaxSource+1), api.Code{}, 0, api.ErrLong)
	expectCode(t, strings.Repeat("\n", api.MaxSource-6)+"code x", api.Code{}, 0, api.ErrCode)
}

func TestPrint(t *testing.T) {
	unused := exampleC()
	unused.Rules[0].When.Terms = append(termsOf(less("rain", 7)).Terms, api.Term{})
	extremes := api.Code{Name: "x", Facts: []api.Fact{{Name: "b", Value: span(-api.MaxValue, api.MaxValue)}, {Name: "a", Value: one(-1)}}}
	for _, x := range []struct {
		c    api.Code
		want string
	}{
		{exampleC(), exampleText}, {unused, exampleText},
		{extremes, "code x\nfact b -1000000000000 1000000000000\nfact a -1 -1\n"},
		{api.Code{Name: "x", Facts: manyFacts(1), Rules: manyRules(1)}, "code x\nfact f0 0 0\nrule r0 0 0 when true must true\n"},
	} {
		if got, e := rule.Print(x.c); got != x.want || e != api.OK {
			t.Errorf("%v: %q %d, want %q", x.c, got, e, x.want)
		}
	}
	got, e := rule.Print(sixUnless())
	if !strings.HasSuffix(got, "\nrule r6 0 0 when true must true unless r0 r1 r2 r3 r4 r5\n") || e != api.OK {
		t.Error(got, e)
	}
}

func TestPrintErrors(t *testing.T) {
	deep, long := nots(always(), 9), doubled(api.TmOr, 4)
	for _, x := range []struct {
		what       string
		when, must api.Cond
		later      api.Cond
		e          api.Errno
	}{
		{"when is deep", deep, always(), always(), api.ErrCond}, {"must is deep", always(), deep, always(), api.ErrCond}, {"a later one is deep", always(), always(), deep, api.ErrCond},
		{"when is long", long, always(), always(), api.ErrLong}, {"must is long", always(), long, always(), api.ErrLong}, {"a later one is long", always(), always(), long, api.ErrLong},
		{"deep and long", deep, long, always(), api.ErrCond}, {"long and deep", long, deep, always(), api.ErrCond}, {"long, later deep", long, always(), deep, api.ErrCond}, {"deep, later long", deep, always(), long, api.ErrCond},
	} {
		c := exampleC()
		c.Rules[0].When, c.Rules[0].Must, c.Rules[2].When = x.when, x.must, x.later
		if got, e := rule.Print(c); got != "" || e != x.e {
			t.Errorf("%s: %q %d, want %d", x.what, got, e, x.e)
		}
		// Check comes first.
		c.Facts[1].Value = span(1, 0)
		if got, e := rule.Print(c); got != "" || e != api.ErrFact {
			t.Errorf("%s, and no code: %q %d", x.what, got, e)
		}
	}
}

// longText is a text of api.MaxSource bytes, as Print makes it.
func longText() string {
	compared := func(n int) string {
		return strings.Repeat("abcdefghij12 = 1000000000000 and ", n-1) + "abcdefghij12 = 1000000000000"
	}
	musts := []string{compared(15), compared(15), compared(15), compared(6), "true", "true", "true", "true", "true", "true", "true", "true"}
	lines := func(extra int) string {
		text := "code x\nfact abcdefghij12 0 0\n"
		for i, must := range musts {
			more := min(extra, api.MaxName-1)
			extra -= more
			text += "rule " + string(rune('a'+i)) + strings.Repeat("x", more) + " 0 0 when " + compared(15) + " must " + must + "\n"
		}
		return text
	}
	return lines(api.MaxSource - len(lines(0)))
}

func TestPrintLimits(t *testing.T) {
	want := longText()
	c := code(t, want)
	if text, e := rule.Print(c); len(text) != api.MaxSource || text != want || e != api.OK {
		t.Error(len(text), len(want), e)
	}
	c.Name = "xy"
	if text, e := rule.Print(c); text != "" || e != api.ErrLong {
		t.Error(len(text), e)
	}
}

// TestParseOfPrint is P4.6.
func TestParseOfPrint(t *testing.T) {
	trials(64, 150, func(_ *rand.Rand, c api.Code) {
		text, e := rule.Print(c)
		if e != api.OK {
			t.Fatalf("%v: %d", c, e)
		}
		d := code(t, text)
		again, e := rule.Print(d)
		if again != text || e != api.OK {
			t.Errorf("%q is printed as %q", text, again)
		}
		for _, day := range someDays() {
			for _, values := range every(c.Facts) {
				f := exactly(c, values)
				got, e := rule.Judge(d, day, f)
				want, e2 := rule.Judge(c, day, f)
				expectVerdicts(t, c, day, f, got, e, want, e2)
			}
		}
	})
}
