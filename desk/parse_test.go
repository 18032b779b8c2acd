package desk_test

import (
	"math/rand"
	"slices"
	"strconv"
	"strings"
	"testing"

	"ullage/api"
	"ullage/desk"
)

// shape is a row of the chapter's table of commands.
type shape struct {
	word           string
	kind           int
	numbers, texts int
}

// shapes has the rows of the chapter's table of commands.
func shapes() []shape {
	return []shape{
		{"length", 1, 1, 0}, {"table", 2, 1, 1}, {"cross", 3, 1, 1}, {"light", 4, 6, 0}, {"hold", 5, 11, 3}, {"tank", 6, 3, 3}, {"code", 7, 0, 1}, {"given", 8, 2, 1},
		{"day", 9, 1, 0}, {"most", 10, 1, 0}, {"fill", 11, 6, 0}, {"level", 12, 6, 0}, {"lot", 13, 4, 0}, {"job", 14, 9, 0}, {"open", 15, 2, 0}, {"rain", 16, 2, 0},
		{"passage", 17, 4, 0}, {"clock", 18, 4, 0}, {"forecast", 19, 5, 0}, {"clear", 20, 0, 0}, {"pour", 21, 5, 0}, {"pair", 22, 10, 0}, {"deed", 23, 5, 0}, {"note", 24, 8, 0},
		{"offer", 25, 2, 0}, {"deliver", 26, 1, 0}, {"lose", 27, 1, 0}, {"double", 28, 1, 0}, {"restart", 29, 2, 0}, {"facts", 30, 0, 0}, {"judge", 31, 0, 0}, {"margin", 32, 0, 0},
		{"prove", 33, 1, 0}, {"why", 34, 5, 0}, {"plan", 35, 1, 0}, {"blocked", 36, 1, 0}, {"times", 37, 2, 0}, {"accounts", 38, 0, 0}, {"shares", 39, 1, 0}, {"burnt", 40, 0, 0},
		{"enough", 41, 3, 0}, {"closed", 42, 2, 0}, {"calm", 43, 4, 0}, {"ledger", 44, 1, 0}, {"disputes", 45, 1, 0}, {"agreed", 46, 2, 0}, {"books", 47, 0, 0},
	}
}

// wordsOf are the words of a line of a command.
func (s shape) wordsOf() []string {
	l := []string{s.word}
	for i := range s.numbers {
		l = append(l, strconv.Itoa(7*i-3))
	}
	for i := range s.texts {
		l = append(l, `"t `+strconv.Itoa(i)+`\n"`)
	}
	return l
}

// commandOf is the command of this line.
func (s shape) commandOf() api.Command {
	c := api.Command{Kind: s.kind}
	for i := range s.numbers {
		c.Args = append(c.Args, 7*i-3)
	}
	for i := range s.texts {
		c.Texts = append(c.Texts, "t "+strconv.Itoa(i)+"\n")
	}
	return c
}

func sameCommand(a, b api.Command) bool {
	return a.Kind == b.Kind && slices.Equal(a.Args, b.Args) && slices.Equal(a.Texts, b.Texts)
}

func expectParse(t *testing.T, line string, want api.Command, place int, wrong api.Errno) {
	t.Helper()
	if c, at, e := desk.Parse(line); !sameCommand(c, want) || at != place || e != wrong {
		t.Errorf("%.100q: %v %d %d, want %v %d %d", line, c, at, e, want, place, wrong)
	}
}

// TestShapes goes through all commands, with each of their words missing, another one in its place, and one too many.
func TestShapes(t *testing.T) {
	for i, s := range shapes() {
		if s.kind != i+1 {
			t.Error(s)
		}
		words := s.wordsOf()
		expectParse(t, strings.Join(words, " "), s.commandOf(), 0, api.OK)
		if line, e := desk.Print(s.commandOf()); line != strings.Join(words, " ") || e != api.OK {
			t.Error(s, line, e)
		}
		expectParse(t, "  "+strings.Join(words, "   ")+" ", s.commandOf(), 0, api.OK)
		for k := range words {
			short := strings.Join(words[:k], "  ") + "  "
			expectParse(t, short, api.Command{}, len(short), api.ErrLine)
			other := []string{`"5"`, "x"}
			if k > s.numbers {
				other = []string{"5", "x"}
			}
			for _, w := range other {
				l := slices.Clone(words)
				l[k] = w
				expectParse(t, strings.Join(l, " "), api.Command{}, len(strings.Join(l[:k], " "))+min(k, 1), api.ErrLine)
			}
		}
		whole := strings.Join(words, " ")
		for _, more := range []string{"1", `"x"`, s.word, "#"} {
			expectParse(t, whole+"  "+more+" 2", api.Command{}, len(whole)+2, api.ErrLine)
		}
	}
}

func TestParse(t *testing.T) {
	given := func(lo, hi int, s string) api.Command {
		return api.Command{Kind: api.CmdGiven, Args: []int{lo, hi}, Texts: []string{s}}
	}
	day := func(n int) api.Command { return api.Command{Kind: api.CmdDay, Args: []int{n}} }
	code := func(n int) string { return `code "` + strings.Repeat("a", n) + `"` }
	for _, c := range []struct {
		line string
		want api.Command
		at   int
		e    api.Errno
	}{
		{`given -5 7 "rain"`, given(-5, 7, "rain"), 0, api.OK},
		{`given 0 0 ""`, given(0, 0, ""), 0, api.OK},
		{`given 1 2 "a\n\"b\\"`, given(1, 2, "a\n\"b\\"), 0, api.OK},
		{"day 1000000000000000", day(1000000000000000), 0, api.OK},
		{"day -1000000000000000", day(-1000000000000000), 0, api.OK},
		{"day", api.Command{}, 3, api.ErrLine},
		{`given 1 "x" 2`, api.Command{}, 8, api.ErrLine},
		{"books 1", api.Command{}, 6, api.ErrLine},
		{"", api.Command{}, 0, api.ErrLine},
		{"   ", api.Command{}, 3, api.ErrLine},
		{"days 1", api.Command{}, 0, api.ErrLine},
		{" Day 1", api.Command{}, 1, api.ErrLine},
		{"error 3", api.Command{}, 0, api.ErrLine},

		{"# x", api.Command{}, 3, api.ErrLine},
		{"#", api.Command{}, 1, api.ErrLine},
		{"#\t\"", api.Command{}, 3, api.ErrLine},
		{" # x", api.Command{}, 1, api.ErrLine},
		{"#" + strings.Repeat("x", 11999), api.Command{}, 12000, api.ErrLine},
		{"#" + strings.Repeat("x", 12000), api.Command{}, 0, api.ErrLong},
		{"days\t1", api.Command{}, 4, api.ErrWord},
		{"days 1 \"", api.Command{}, 7, api.ErrWord},
		{"days" + strings.Repeat(" 1", 20), api.Command{}, 0, api.ErrLong},
		{"days" + strings.Repeat(" 1", 19), api.Command{}, 0, api.ErrLine},
		{code(12000 - 7), api.Command{Kind: api.CmdCode, Texts: []string{strings.Repeat("a", 12000-7)}}, 0, api.OK},
		{code(12000 - 6), api.Command{}, 0, api.ErrLong},
	} {
		expectParse(t, c.line, c.want, c.at, c.e)
	}
	for _, n := range []string{"01", "-0", "+1", "00", "1.0", "--1", "-", "1a", "1_0", "0x1", "1000000000000001", "-1000000000000001", "9999999999999999", "10000000000000000", "-01", "99999999999999999999", "1e3"} {
		expectParse(t, "day  "+n, api.Command{}, 5, api.ErrLine)
	}
}

// randomCommand is a right command.
func randomCommand(r *rand.Rand) api.Command {
	all := shapes()
	s := all[r.Intn(len(all))]
	c := api.Command{Kind: s.kind}
	for range s.numbers {
		n := r.Intn(1 << r.Intn(50))
		if n > api.MaxWide || r.Intn(8) == 0 {
			n = api.MaxWide
		}
		c.Args = append(c.Args, n-2*n*r.Intn(2))
	}
	for range s.texts {
		c.Texts = append(c.Texts, randomText(r, "a 0\"\\\n~#", 20))
	}
	return c
}

// TestPrintAndParse is P9.1.
func TestPrintAndParse(t *testing.T) {
	r := rand.New(rand.NewSource(103))
	for range 20000 {
		c := randomCommand(r)
		line, e := desk.Print(c)
		if e != api.OK || strings.HasPrefix(line, " ") || strings.HasSuffix(line, " ") {
			t.Fatal(c, line, e)
		}
		expectParse(t, line, c, 0, api.OK)
		// More spaces between the words mean the same.
		words, _, _ := desk.Words(line)
		wide := strings.Repeat(" ", r.Intn(3))
		for _, w := range words {
			if w[0] == '"' {
				w = desk.Quote(w[1:])
			}
			wide += w + strings.Repeat(" ", 1+r.Intn(3))
		}
		d, at, e := desk.Parse(wide)
		again, f := desk.Print(d)
		if !sameCommand(c, d) || at != 0 || e != api.OK || again != line || f != api.OK {
			t.Fatalf("%q: %v %d %d %q %d", wide, d, at, e, again, f)
		}
	}
}

func TestPrint(t *testing.T) {
	day := api.Command{Kind: api.CmdDay, Args: []int{5}}
	given := api.Command{Kind: api.CmdGiven, Args: []int{5, 6}, Texts: []string{"x"}}
	for _, c := range []struct {
		c    api.Command
		want string
		e    api.Errno
	}{
		{day, "day 5", api.OK},
		{given, `given 5 6 "x"`, api.OK},
		{api.Command{Kind: api.CmdBooks}, "books", api.OK},
		{api.Command{Kind: api.CmdBooks, Args: []int{}, Texts: []string{}}, "books", api.OK},
		{api.Command{Kind: api.CmdCode, Texts: []string{""}}, `code ""`, api.OK},
		{api.Command{}, "", api.ErrLine},
		{api.Command{Kind: 48}, "", api.ErrLine},
		{api.Command{Kind: -1}, "", api.ErrLine},
		{api.Command{Kind: 1 << 62}, "", api.ErrLine},
		{api.Command{Kind: api.CmdDay}, "", api.ErrLine},
		{api.Command{Kind: api.CmdDay, Args: []int{5, 6}}, "", api.ErrLine},
		{api.Command{Kind: api.CmdDay, Args: []int{5}, Texts: []string{""}}, "", api.ErrLine},
		{api.Command{Kind: api.CmdGiven, Args: []int{5, 6}}, "", api.ErrLine},
		{api.Command{Kind: api.CmdDay, Args: []int{api.MaxWide}}, "day 1000000000000000", api.OK},
		{api.Command{Kind: api.CmdDay, Args: []int{-api.MaxWide}}, "day -1000000000000000", api.OK},
		{api.Command{Kind: api.CmdDay, Args: []int{api.MaxWide + 1}}, "", api.ErrLine},
		{api.Command{Kind: api.CmdDay, Args: []int{-api.MaxWide - 1}}, "", api.ErrLine},
		{api.Command{Kind: api.CmdCode, Texts: []string{"\t"}}, "", api.ErrLine},
		{api.Command{Kind: api.CmdCode, Texts: []string{"\x7f"}}, "", api.ErrLine},
		{api.Command{Kind: api.CmdTank, Args: []int{1, 2, 3}, Texts: []string{"", "", "\x80"}}, "", api.ErrLine},
		{api.Command{Kind: api.CmdCode, Texts: []string{strings.Repeat("a", 11993)}}, `code "` + strings.Repeat("a", 11993) + `"`, api.OK},
		{api.Command{Kind: api.CmdCode, Texts: []string{strings.Repeat("a", 11994)}}, "", api.ErrLong},
		{api.Command{Kind: api.CmdCode, Texts: []string{strings.Repeat("\n", 5997)}}, "", api.ErrLong},
		{api.Command{Kind: api.CmdCode, Texts: []string{strings.Repeat("a", 20000) + "\t"}}, "", api.ErrLine},
	} {
		if got, e := desk.Print(c.c); got != c.want || e != c.e {
			t.Errorf("%.100v: %.100q %d, want %.100q %d", c.c, got, e, c.want, c.e)
		}
	}
}
