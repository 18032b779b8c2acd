package desk_test

import (
	"math/rand"
	"slices"
	"strconv"
	"strings"
	"testing"

	"ullage/api"
	"ullage/cond"
	"ullage/desk"
)

// exampleScript is the chapter's, with what it tells.
func exampleScript() (script, told []string) {
	script = []string{
		"length 100000", "day 5", "lot 1 1 1 1300", "lot 2 2 1 1500", "deed 1 1 0 3 60", "deed 1 2 0 3 40", "deed 3 0 3 0 50", "shares 3", "accounts",
		"note 1 1 7 100 120 5 0 0", "note 2 2 7 130 140 6 0 0", "offer 1 0", "deliver 0", "offer 2 0", "disputes 0", "deliver 1", "disputes 0", "agreed 0 8", "passage 2 3 10 12", "burnt", "judge",
	}
	told = []string{
		"ok", "ok", "ok", "ok", "moved 60", "moved 40", "moved 50", "1 3 5", "2 2 5", "1 60 30 0 30", "2 40 20 0 20", "entry 1 0", "entry 2 0",
		"messages 1", "messages 1", "messages 2", "none", "messages 2", "7 1 0 2 0", "error 3", "ok", "20 36", "error 30",
	}
	return script, told
}

// ended ends each line with a line feed.
func ended(l ...string) string {
	s := ""
	for _, line := range l {
		s += line + "\n"
	}
	return s
}

func expectRun(t *testing.T, text, want string, line int, wrong api.Errno) {
	t.Helper()
	if got, n, e := desk.Run(text); got != want || n != line || e != wrong {
		t.Errorf("Run of %.100q: %.100q %d %d, want %.100q %d %d", text, got, n, e, want, line, wrong)
	}
	if b, n, e := desk.Bundle(text); wrong != api.OK && (b != "" || n != line || e != wrong) {
		t.Errorf("Bundle of %.100q: %.100q %d %d, want %d %d", text, b, n, e, line, wrong)
	}
}

func TestRun(t *testing.T) {
	script, told := exampleScript()
	expectRun(t, strings.Join(script, "\n"), ended(told...), 0, api.OK)
	expectRun(t, ended(script...), ended(told...), 0, api.OK)
	expectRun(t, "", "", 0, api.OK)
	expectRun(t, "\n\n", "", 0, api.OK)
	expectRun(t, "# no\n   \n  day   5  \n\n#\x00\nday -1", "ok\nerror 45\n", 0, api.OK)
	expectRun(t, "books", "entries 0\nentries 0\nentries 0\nentries 0\n", 0, api.OK)
	// Each script has a desk of its own.
	expectRun(t, "lot 1 1 1 0", "ok\n", 0, api.OK)
	expectRun(t, "accounts", "none\n", 0, api.OK)
	// The number of a line counts all lines.
	expectRun(t, "day 5\n#\n\ndays 5\nday", "", 4, api.ErrLine)
	expectRun(t, "day 5\n\n day\t5\ndays", "", 3, api.ErrWord)
	expectRun(t, "\t", "", 1, api.ErrWord)
	expectRun(t, " #", "", 1, api.ErrLine)
	expectRun(t, "day 5\nday 5\r\n", "", 2, api.ErrWord)
	expectRun(t, "day 5\nday"+strings.Repeat(" 1", 20), "", 2, api.ErrLong)
	expectRun(t, "\n\ncode \""+strings.Repeat("a", 12000)+"\"", "", 3, api.ErrLong)
	expectRun(t, "#"+strings.Repeat("a", 20000)+"\n"+strings.Repeat(" ", 20000)+"\nday 5", "ok\n", 0, api.OK)
}

// TestLongScripts: as long as a script may be, and longer.
func TestLongScripts(t *testing.T) {
	lines := strings.Repeat("day 5\n", 200)
	expectRun(t, lines, strings.Repeat("ok\n", 200), 0, api.OK)
	expectRun(t, "#\n"+strings.Repeat("day 5\n\n", 200)+"   ", strings.Repeat("ok\n", 200), 0, api.OK)
	expectRun(t, lines+"\n\nday", "", 0, api.ErrLong)
	expectRun(t, "days\n"+lines, "", 0, api.ErrLong)
	full := "day 5\n" + strings.Repeat("#", 60000-6)
	expectRun(t, full, "ok\n", 0, api.OK)
	expectRun(t, full+"#", "", 0, api.ErrLong)
	expectRun(t, "days\n"+full, "", 0, api.ErrLong)
	// A bundle may be too long, although its script is not: 200 lines of it tell 60 lines each time.
	script := strings.Repeat("note 0 1 99999 -1000000000000 1000000000000 1000000 0 0\n", 60) + strings.Repeat("ledger 0\n", 64)
	told, n, e := desk.Run(script)
	if len(told) < 160000 || n != 0 || e != api.OK {
		t.Error(len(told), n, e)
	}
	b, n, e := desk.Bundle(script)
	if len(b) > 200000 || len(b) < 180000 || n != 0 || e != api.OK {
		t.Error(len(b), n, e)
	}
	expectAccept(t, b, 0, api.OK)
	script += strings.Repeat("ledger 0\n", 200-124)
	if told, n, e = desk.Run(script); len(told) < 350000 || n != 0 || e != api.OK {
		t.Error(len(told), n, e)
	}
	if b, n, e := desk.Bundle(script); b != "" || n != 0 || e != api.ErrLong {
		t.Error(len(b), n, e)
	}
}

// bundleOf makes a bundle of exactly so many bytes, near the greatest number, and how many lines it has.
func bundleOf(bytes int) (string, int) {
	script := strings.Repeat("note 0 1 99999 -1000000000000 1000000000000 1000000 0 0\n", 60) + strings.Repeat("ledger 0\n", 66)
	b, _, _ := desk.Bundle(script)
	b += "> day " + strings.Repeat(" ", bytes-len(b)-13) + "5\n< ok\n"
	return b, strings.Count(b, "\n")
}

func TestBundle(t *testing.T) {
	script, told := exampleScript()
	want, k := "", 0
	for i, line := range script {
		want += "> " + line + "\n"
		many := 1
		if i == 7 || i == 8 {
			many = 2
		}
		for range many {
			want += "< " + told[k] + "\n"
			k++
		}
	}
	if b, n, e := desk.Bundle("#\n\n" + strings.Join(script, "\n \n#")); b == want || n != 0 || e != api.OK {
		t.Error("comments count:", b, n, e)
	}
	for _, text := range []string{strings.Join(script, "\n"), ended(script...), "#\n\n" + strings.Join(script, "\n \n# x\n")} {
		if b, n, e := desk.Bundle(text); b != want || n != 0 || e != api.OK {
			t.Error(b, n, e)
		}
	}
	if b, n, e := desk.Bundle("  day   5 \n#"); b != ">   day   5 \n< ok\n" || n != 0 || e != api.OK {
		t.Error(b, n, e)
	}
	if b, n, e := desk.Bundle(""); b != "" || n != 0 || e != api.OK {
		t.Error(b, n, e)
	}
}

func TestOpen(t *testing.T) {
	for _, c := range []struct {
		bundle, text, told string
		line               int
		e                  api.Errno
	}{
		{"> day 5\n< ok\n", "day 5\n", "ok\n", 0, api.OK},
		{"> day 5\n< ok", "day 5\n", "ok\n", 0, api.OK},
		{"", "", "", 0, api.OK},
		{"< a\n<  b\n> c\n> \n< ", "c\n\n", "a\n b\n\n", 0, api.OK},
		{"> #\n> > x\n< < \x00", "#\n> x\n", "< \x00\n", 0, api.OK},
		{"day 5\n", "", "", 1, api.ErrBundle},
		{"> a\n<b\n", "", "", 2, api.ErrBundle},
		{"> a\n\n< b\n", "", "", 2, api.ErrBundle},
		{"> a\n< b\n\n", "", "", 3, api.ErrBundle},
		{"\n", "", "", 1, api.ErrBundle},
		{">", "", "", 1, api.ErrBundle},
		{"> a\n# b\n", "", "", 2, api.ErrBundle},
		{"> a\n  > b\n", "", "", 2, api.ErrBundle},
		{"< " + strings.Repeat("x", 199998), "", strings.Repeat("x", 199998) + "\n", 0, api.OK},
		{"x " + strings.Repeat("x", 199999), "", "", 0, api.ErrLong},
	} {
		if text, told, n, e := desk.Open(c.bundle); text != c.text || told != c.told || n != c.line || e != c.e {
			t.Errorf("%.60q: %.60q %.60q %d %d", c.bundle, text, told, n, e)
		}
	}
}

// expectAccept expects what Accept tells of a bundle, and that the oracle tells the same.
func expectAccept(t *testing.T, bundle string, line int, wrong api.Errno) {
	t.Helper()
	if n, e := desk.Accept(bundle); n != line || e != wrong {
		t.Errorf("%.200q: %d %d, want %d %d", bundle, n, e, line, wrong)
	}
	if n, e := wantAccept(bundle); n != line || e != wrong {
		t.Errorf("the oracle has %.200q: %d %d, want %d %d", bundle, n, e, line, wrong)
	}
}

func TestAccept(t *testing.T) {
	for _, c := range []struct {
		bundle string
		line   int
		e      api.Errno
	}{
		{"", 0, api.OK},
		{"> day 5\n< ok\n", 0, api.OK},
		{">  day  5 \n< ok\n", 0, api.OK},
		{"> day 5\n< yes\n", 2, api.ErrTold},
		{"> day 5\n", 2, api.ErrTold},
		{"> day 5", 2, api.ErrTold},
		{"< ok\n", 1, api.ErrTold},
		{"< ok", 1, api.ErrTold},
		{"day 5\n", 1, api.ErrBundle},
		{"> day 5\n< ok", 2, api.ErrTold},
		{"> day 5\n< ok\n> # x\n", 3, api.ErrBundle},
		{"> day 5\n< ok\n> days\n", 3, api.ErrLine},
		// A line too many, too few, or with something else.
		{"> day 5\n< ok\n< ok\n", 3, api.ErrTold},
		{"> day 5\n< ok\n<  \n", 3, api.ErrTold},
		{"> day 5\n<  ok\n", 2, api.ErrTold},
		{"> day 5\n< ok \n", 2, api.ErrTold},
		{"> day 5\n> day 6\n< ok\n", 2, api.ErrTold},
		{"> day 5\n< ok\n> day 6\n", 4, api.ErrTold},
		{"> day 5\n< ok\n> day 6", 4, api.ErrTold},
		{"> day 5\n< ok\n> day -1\n< ok\n", 4, api.ErrTold},
		{"> day 5\n< ok\n> day -1\n< error 45\n", 0, api.OK},
		{"> books\n< entries 0\n< entries 0\n< entries 0\n< entries 0\n", 0, api.OK},
		{"> books\n< entries 0\n< entries 0\n< entries 0\n", 5, api.ErrTold},
		{"> books\n< entries 0\n< entries 0\n< entries 0\n> day 5\n< ok\n", 5, api.ErrTold},
		{"> books\n< entries 0\n< entries 1\n< entries 0\n< entries 0\n", 3, api.ErrTold},
		{"> books\n< entries 0\n< entries 0\n< entries 0\n< entries 0\n< entries 0\n", 6, api.ErrTold},
		{"< ok\n> day 5\n< ok\n", 1, api.ErrTold},
		{"< ok\n< ok\n> day 5\n< yes\n", 1, api.ErrTold},
		// A missing line feed comes behind all else.
		{"> day 5\n< yes\n> day 6\n< ok", 2, api.ErrTold},
		{"> day 5\n< ok\n> day 6\n< ok", 4, api.ErrTold},
		// The script is wrong: its errors come ahead of what is told, with the number of the bundle's line.
		{"> day 5\n< yes\n> days\n< ok\n", 3, api.ErrLine},
		{"< ok\n> days\n", 2, api.ErrLine},
		{"< ok\n< ok\n> day\t5\n", 3, api.ErrWord},
		{"> day 5\n< ok\n> \n", 3, api.ErrBundle},
		{"> day 5\n< ok\n>    \n", 3, api.ErrBundle},
		{"> \n", 1, api.ErrBundle},
		{"> days\n< ok\n> #\n", 3, api.ErrBundle},
		{"> #\n> days\nx\n", 3, api.ErrBundle},
		{"> day 5\n< ok\n> day" + strings.Repeat(" 1", 20) + "\n", 0, api.ErrLong},
		{"> days\n> day" + strings.Repeat(" 1", 20) + "\n", 1, api.ErrLine},
	} {
		expectAccept(t, c.bundle, c.line, c.e)
	}
}

// TestLongBundles: as long as a bundle, and its script, may be, and longer.
func TestLongBundles(t *testing.T) {
	lines := strings.Repeat("> day 5\n< ok\n", 200)
	expectAccept(t, lines, 0, api.OK)
	expectAccept(t, lines+"> day 5\n< ok\n", 0, api.ErrLong)
	expectAccept(t, lines+"> days\n< ok\n", 0, api.ErrLong)
	expectAccept(t, lines+"> \n< ok\n", 401, api.ErrBundle)
	// A line of the script can have 12000 bytes, all together 60000, without the last line feed.
	code := func(n int) string { return "> code \"" + strings.Repeat("a", n-7) + "\"\n< error 2\n" }
	text := strings.Repeat(code(12000), 4)
	expectAccept(t, text+code(11996), 0, api.OK)
	expectAccept(t, text+code(11997), 0, api.ErrLong)
	expectAccept(t, "> days\n"+text+code(11996), 0, api.ErrLong)
	expectAccept(t, "> #\n"+text+code(11994), 1, api.ErrBundle)
	expectAccept(t, "> #\n"+text+code(11995), 0, api.ErrLong)
	expectAccept(t, text+code(12001), 0, api.ErrLong)
	script, _, _, _ := desk.Open(text + code(11996))
	if b, n, e := desk.Bundle(strings.TrimSuffix(script, "\n")); b != text+code(11996) || n != 0 || e != api.OK {
		t.Error(len(b), n, e)
	}
	if _, n, e := desk.Bundle(script); n != 0 || e != api.ErrLong {
		t.Error(n, e)
	}
	b, n := bundleOf(200000)
	if len(b) != 200000 {
		t.Error(len(b))
	}
	expectAccept(t, b, 0, api.OK)
	expectAccept(t, b[:len(b)-1], n, api.ErrTold)
	script, _, _, _ = desk.Open(b)
	if again, n, e := desk.Bundle(script); again != b || n != 0 || e != api.OK {
		t.Error(len(again), n, e)
	}
	if again, n, e := desk.Bundle(strings.Replace(script, "day ", "day  ", 1)); again != "" || n != 0 || e != api.ErrLong {
		t.Error(len(again), n, e)
	}
	b, _ = bundleOf(200001)
	expectAccept(t, b, 0, api.ErrLong)
	expectAccept(t, b[:len(b)-1]+"x", 0, api.ErrLong)
}

// provedBundle is the bundle of the example's voyage with a proof, and one that fails; and the number of the line that asks for the proof.
func provedBundle(t *testing.T, more ...string) (string, int) {
	t.Helper()
	b, _, e := desk.Bundle(ended(append(voyageScript(), more...)...))
	if e != api.OK {
		t.Fatal(e)
	}
	lines := strings.Split(b, "\n")
	return b, 1 + slices.IndexFunc(lines, func(s string) bool { return strings.HasPrefix(s, "> prove") })
}

// TestProofs: another certificate is as good, if it shows what is needed.
func TestProofs(t *testing.T) {
	b, n := provedBundle(t, "prove 1000000", "most 300", "day 6")
	own := "< cert 2\n< 0 0\n< 400 2650\n"
	if !strings.Contains(b, own) {
		t.Fatal(b)
	}
	expectAccept(t, b, 0, api.OK)
	expectAccept(t, strings.TrimSuffix(b, "\n"), strings.Count(b, "\n"), api.ErrTold)
	for told, e := range map[string]api.Errno{
		"< cert 2\n< 0 0\n< 400 2500\n":                 api.OK,
		"< cert 2\n< 0 0\n< 400 2499\n":                 api.ErrTold, // too short
		"< cert 2\n< 0 0\n< 400 2651\n":                 api.ErrTold, // more than there is
		"< cert 3\n< 0 0\n< 200 1325\n< 400 2650\n":     api.OK,
		"< cert 3\n< 0 -5\n< 200 1325\n< 400 2650\n":    api.OK,
		"< cert 3\n< 0 0\n< 200 1326\n< 400 2650\n":     api.ErrTold,
		"< cert 3\n< 0 0\n< 400 2650\n":                 api.ErrTold,
		"< cert 1\n< 0 0\n< 400 2650\n":                 api.ErrTold,
		"< cert 2\n< 0 0\n< 200 1325\n< 400 2650\n":     api.ErrTold,
		"< cert 2\n< 0 0\n< 300 2650\n":                 api.ErrTold,
		"< cert 2\n< 1 0\n< 400 2650\n":                 api.ErrTold,
		"< cert 2\n< 400 2650\n< 0 0\n":                 api.ErrTold,
		"< cert 1\n< 400 2650\n":                        api.ErrTold,
		"< cert 0\n":                                    api.ErrTold,
		"< cert 2\n< 0 0\n< 400 02650\n":                api.ErrTold,
		"< cert 2\n< 0 -0\n< 400 2650\n":                api.ErrTold,
		"< cert 2\n< 0 0\n< +400 2650\n":                api.ErrTold,
		"< cert 02\n< 0 0\n< 400 2650\n":                api.ErrTold,
		"< cert\n< 0 0\n< 400 2650\n":                   api.ErrTold,
		"< cert 2 2\n< 0 0\n< 400 2650\n":               api.ErrTold,
		"< Cert 2\n< 0 0\n< 400 2650\n":                 api.ErrTold,
		"< certs 2\n< 0 0\n< 400 2650\n":                api.ErrTold,
		"< \"cert\" 2\n< 0 0\n< 400 2650\n":             api.ErrTold,
		"< cert 2\n< 0 0 0\n< 400 2650\n":               api.ErrTold,
		"< cert 2\n< 0 0\n< 400 2650 2650\n":            api.ErrTold,
		"< cert 2\n< 0\n< 400 2650\n":                   api.ErrTold,
		"< cert 2\n< \n< 400 2650\n":                    api.ErrTold,
		"< cert 2\n< 0 0\n< 400 \"2650\n":               api.ErrTold,
		"< cert 2\n< 0\t0\n< 400 2650\n":                api.ErrTold,
		"< cert 2\n< 0 0\n< 400 9999999999999999\n":     api.ErrTold,
		"< cert 2\n< 0 0\n< 400 99999999999999999999\n": api.ErrTold,
		"< cert 2\n< 0 -2000000000\n< 400 2650\n":       api.ErrTold,
		"< error 34\n":                                  api.ErrTold,
		"< ok\n":                                        api.ErrTold,
		"":                                              api.ErrTold,
		"< cert 2\n< 0 0\n< 400 2650\n< 400 2650\n":     api.ErrTold,
		"< cert 2\n< 0 0\n< 400 2650\n< \n":             api.ErrTold,
		"< cert 2\n< 0 0\n":                             api.ErrTold,
		"<  cert  2 \n<   0    0\n< 400    2650   \n":   api.OK, // words are parted by one or more spaces
		"< cert 101\n" + strings.Repeat("< 0 0\n", 101): api.ErrTold,
		"< cert 101\n" + manyPoints(101):                api.ErrTold,
		"< cert 100\n" + manyPoints(100):                api.OK,
	} {
		line := 0
		if e != api.OK {
			line = n + 1
		}
		bundle := strings.Replace(b, own, told, 1)
		if got, f := desk.Accept(bundle); got != line || f != e {
			t.Errorf("%.80q: %d %d, want %d %d", told, got, f, line, e)
		}
		// At the end of a bundle the same holds.
		bundle = b[:strings.Index(b, own)] + told
		if got, f := desk.Accept(bundle); got != line || f != e {
			t.Errorf("%.80q at the end: %d %d, want %d %d", told, got, f, line, e)
		}
	}
}

// manyPoints are the lines of a certificate with so many points, up to 40 degrees.
func manyPoints(n int) string {
	s := ""
	for i := range n - 1 {
		s += "< " + strconv.Itoa(i) + " " + strconv.Itoa(i*2650/400) + "\n"
	}
	return s + "< 400 2650\n"
}

// TestProofsWithErrors: where an error is due, no certificate stands for it, and its answer is the one line.
func TestProofsWithErrors(t *testing.T) {
	b, n := provedBundle(t, "prove 1060001", "day 6")
	expectAccept(t, b, 0, api.OK)
	for _, told := range []string{"", "< error 33\n", "< cert 2\n< 0 0\n< 400 2650\n", "< error 34\n< error 34\n", "< error 34\n< cert 2\n", "< error 34 \n"} {
		expectAccept(t, strings.Replace(b, "< error 34\n", told, 1), n+1, api.ErrTold)
	}
	// Even where a certificate would show what is needed, but the voyage is not valid.
	b, n = provedBundle(t, `given 1 2 "rain"`, "clear", "prove 0", `code "code a\nfact b 1 2"`, "prove 0")
	expectAccept(t, b, 0, api.OK)
	if n == 0 || strings.Count(b, "< cert 2\n") != 2 {
		t.Error(b)
	}
	short := slices.DeleteFunc(voyageScript(), func(s string) bool { return strings.HasPrefix(s, "code") })
	b, _, _ = desk.Bundle(ended(append(short, "prove 0")...))
	if !strings.HasSuffix(b, "> prove 0\n< error 40\n") {
		t.Error(b)
	}
	expectAccept(t, b, 0, api.OK)
	expectAccept(t, strings.Replace(b, "< error 40\n", "< cert 2\n< 0 0\n< 400 2650\n", 1), strings.Count(b, "\n"), api.ErrTold)
}

// TestFinerProofs: a certificate with more points than the margin may show a little more than the plain one, because of what is rounded off where it begins. It stands for the plain one, but not for an error.
func TestFinerProofs(t *testing.T) {
	l := slices.DeleteFunc(voyageScript(), func(s string) bool { return strings.HasPrefix(s, "cross") })
	arms := ` "0 -1 -1\n300 270 270\n800 0 0"`
	l = append(l, `table 6 "0 0 0\n800 0 0"`, "cross 0"+arms, "cross 100"+arms, "most 300", "margin")
	plain, finer := "< cert 2\n< 2 0\n< 300 270\n", "< cert 3\n< 2 0\n< 3 1\n< 300 270\n"
	b, _, _ := desk.Bundle(ended(append(l, "prove 80460")...))
	if !strings.HasSuffix(b, "> margin\n< 0 -1 -1\n< 300 270 270\n< 800 0 0\n> prove 80460\n"+plain) {
		t.Fatal(b)
	}
	expectAccept(t, b, 0, api.OK)
	expectAccept(t, strings.Replace(b, plain, finer, 1), 0, api.OK)
	b, _, _ = desk.Bundle(ended(append(l, "prove 80470")...))
	if !strings.HasSuffix(b, "> prove 80470\n< error 34\n") {
		t.Fatal(b)
	}
	expectAccept(t, b, 0, api.OK)
	expectAccept(t, strings.Replace(b, "< error 34\n", finer, 1), strings.Count(b, "\n"), api.ErrTold)
	if load := (api.Load{}); cond.Check(deskBehind(t, l...).Voyage().Ship, load, 300, 80470, api.Cert{Points: []api.Point{{X: 2}, {X: 3, Lo: 1, Hi: 1}, {X: 300, Lo: 270, Hi: 270}}}) != api.OK {
		t.Error("the finer certificate does not show more")
	}
}

// TestProofsInOrder: a proof is of what the desk has at its line.
func TestProofsInOrder(t *testing.T) {
	b, _ := provedBundle(t, "prove 0", "most 300", "prove 0", "pour 1 3000 3000 1000 1000", "prove 0")
	expectAccept(t, b, 0, api.OK)
	lines := strings.Split(b, "\n")
	var proofs []int
	for i, line := range lines {
		if strings.HasPrefix(line, "> prove") {
			proofs = append(proofs, i)
		}
	}
	if len(proofs) != 3 {
		t.Fatal(b)
	}
	// The answers of the first and the second one, exchanged.
	swapped := slices.Clone(lines)
	for k := 1; k <= 3; k++ {
		swapped[proofs[0]+k], swapped[proofs[1]+k] = swapped[proofs[1]+k], swapped[proofs[0]+k]
	}
	expectAccept(t, strings.Join(swapped, "\n"), proofs[0]+2, api.ErrTold)
	// The second one's for the third one: the grain made the margin less.
	other := slices.Clone(lines)
	copy(other[proofs[2]+1:], lines[proofs[1]+1:proofs[1]+4])
	expectAccept(t, strings.Join(other[:proofs[2]+4], "\n")+"\n", proofs[2]+2, api.ErrTold)
}

// TestAcceptByOracle changes bundles of random scripts in random places.
func TestAcceptByOracle(t *testing.T) {
	w := writer{rand.New(rand.NewSource(112))}
	seen := map[api.Errno]int{}
	for range 150 {
		lines := w.beginning()
		for range 25 {
			lines = append(lines, w.line())
			if w.Intn(5) == 0 {
				lines = append(lines, "prove"+w.one(0, 500000))
			}
		}
		b, _, e := desk.Bundle(ended(lines...))
		if e != api.OK {
			t.Fatal(e)
		}
		expectAccept(t, b, 0, api.OK)
		for range 12 {
			bundle := w.changed(b)
			line, wrong := wantAccept(bundle)
			seen[wrong]++
			if n, e := desk.Accept(bundle); n != line || e != wrong {
				t.Fatalf("%d %d, want %d %d:\n%s", n, e, line, wrong, bundle)
			}
		}
	}
	if min(seen[api.OK], seen[api.ErrTold], seen[api.ErrLine], seen[api.ErrBundle]) < 20 {
		t.Error("too few cases:", seen)
	}
}

// changed is a bundle in which a line, or a byte, is another one, is left out, or stands twice.
func (w writer) changed(b string) string {
	lines := strings.SplitAfter(b, "\n")
	i := w.Intn(len(lines))
	switch w.Intn(8) {
	case 0:
		lines = slices.Delete(lines, i, i+1)
	case 1:
		lines = slices.Insert(lines, i, lines[i])
	case 2:
		j := w.Intn(len(lines))
		lines[i], lines[j] = lines[j], lines[i]
	case 3:
		return b[:w.Intn(len(b))]
	case 4, 5:
		at := w.Intn(len(b))
		return b[:at] + string("0123456789 -\n<>ab"[w.Intn(17)]) + b[at+w.Intn(2):]
	default:
		// A certificate's number is another one.
		var proofs []int
		for k, line := range lines {
			if k > 0 && strings.HasPrefix(lines[k-1], "> prove") && strings.HasPrefix(line, "< cert") {
				proofs = append(proofs, k)
			}
		}
		if len(proofs) > 0 {
			k := proofs[w.Intn(len(proofs))] + 1
			words := strings.Fields(lines[k])
			value, _ := strconv.Atoi(words[2])
			lines[k] = "< " + words[1] + " " + strconv.Itoa(value-w.Intn(3)+1) + "\n"
		}
	}
	return strings.Join(lines, "")
}
