package desk_test

import (
	"math/rand"
	"regexp"
	"slices"
	"strconv"
	"strings"
	"testing"

	"ullage/api"
	"ullage/desk"
)

func TestWords(t *testing.T) {
	twenty := strings.Repeat("a ", 19) + "b"
	for _, c := range []struct {
		line string
		want []string
		at   int
		e    api.Errno
	}{
		{"", nil, 0, api.OK},
		{"    ", nil, 0, api.OK},
		{"a \"b\\nc\" d", []string{"a", "\"b\nc", "d"}, 0, api.OK},
		{"  a   b  ", []string{"a", "b"}, 0, api.OK},
		{"# a", []string{"#", "a"}, 0, api.OK},
		{`""`, []string{`"`}, 0, api.OK},
		{`"" "" a`, []string{`"`, `"`, "a"}, 0, api.OK},
		{`"\"\\\n"`, []string{"\"\"\\\n"}, 0, api.OK},
		{`"\\" b`, []string{`"\`, "b"}, 0, api.OK},
		{`a\b \`, []string{`a\b`, `\`}, 0, api.OK},
		{"! ~ \" ~\"", []string{"!", "~", "\" ~"}, 0, api.OK},
		{twenty, strings.Fields(twenty), 0, api.OK},

		{"a\tb", nil, 1, api.ErrWord},
		{"a\nb", nil, 1, api.ErrWord},
		{"ab \x7f", nil, 3, api.ErrWord},
		{"a \x80", nil, 2, api.ErrWord},
		{"\x00", nil, 0, api.ErrWord},
		{"\xc3\xa9", nil, 0, api.ErrWord},
		{`a"b"`, nil, 1, api.ErrWord},
		{`a "b"c`, nil, 5, api.ErrWord},
		{`"b""c"`, nil, 3, api.ErrWord},
		{"\"b\"\t", nil, 3, api.ErrWord},
		{"\"a\x1f\"", nil, 2, api.ErrWord},
		{"\"a\x7f\"", nil, 2, api.ErrWord},
		{"\"a\n\"", nil, 2, api.ErrWord},
		{`a "b\c"`, nil, 4, api.ErrWord},
		{`"\N"`, nil, 1, api.ErrWord},
		{`"a\`, nil, 2, api.ErrWord},
		{`a "`, nil, 2, api.ErrWord},
		{`a "b c`, nil, 2, api.ErrWord},
		{`"a\"`, nil, 0, api.ErrWord},
		{`"a" "b`, nil, 4, api.ErrWord},
		{"\"a\x01", nil, 2, api.ErrWord},

		{twenty + " c", nil, 0, api.ErrLong},
		{twenty + ` c "`, nil, 42, api.ErrWord},
		{strings.Repeat("a", 12000), []string{strings.Repeat("a", 12000)}, 0, api.OK},
		{strings.Repeat("a", 12001), nil, 0, api.ErrLong},
		{strings.Repeat(" ", 12000), nil, 0, api.OK},
		{strings.Repeat(" ", 12001), nil, 0, api.ErrLong},
		{strings.Repeat("\t", 12001), nil, 0, api.ErrLong},
	} {
		if got, at, e := desk.Words(c.line); !slices.Equal(got, c.want) || at != c.at || e != c.e {
			t.Errorf("%.60q: %q %d %d, want %q %d %d", c.line, got, at, e, c.want, c.at, c.e)
		}
	}
}

// What lines are made of: a word, a beginning of a quoted one, and lines up to there.
const (
	quotedForm = `"(?:[ !#-\[\]-~]|\\["\\n])*"`
	wordForm   = `(?:` + quotedForm + `|[!#-~]+)`
	openForm   = `"(?:[ !#-\[\]-~]|\\["\\n])*`
)

var (
	oneWord   = regexp.MustCompile(wordForm)
	wholeLine = regexp.MustCompile(`\A *(?:` + wordForm + `(?: +` + wordForm + `)* *)?\z`)
	openLine  = regexp.MustCompile(`\A *(?:` + wordForm + ` +)*(` + openForm + `)\z`)
	bentLine  = regexp.MustCompile(`\A *(?:` + wordForm + ` +)*` + openForm + `(\\)\z`) // the last byte is a `\` that waits for another byte
)

// wordsByForm says what Words has to say of a line that is not too long.
func wordsByForm(line string) ([]string, int, api.Errno) {
	if wholeLine.MatchString(line) {
		var l []string
		for _, w := range oneWord.FindAllString(line, -1) {
			if w[0] == '"' {
				s, _ := strconv.Unquote(w)
				w = `"` + s
			}
			l = append(l, w)
		}
		if len(l) > 20 {
			return nil, 0, api.ErrLong
		}
		return l, 0, api.OK
	}
	for k := range len(line) {
		ahead := line[:k+1]
		if wholeLine.MatchString(ahead) || openLine.MatchString(ahead) || bentLine.MatchString(ahead) {
			continue
		}
		if bentLine.MatchString(line[:k]) {
			return nil, k - 1, api.ErrWord
		}
		return nil, k, api.ErrWord
	}
	if bentLine.MatchString(line) {
		return nil, len(line) - 1, api.ErrWord
	}
	return nil, openLine.FindStringSubmatchIndex(line)[2], api.ErrWord
}

// randomText has bytes of these.
func randomText(r *rand.Rand, bytes string, most int) string {
	b := make([]byte, r.Intn(most+1))
	for i := range b {
		b[i] = bytes[r.Intn(len(bytes))]
	}
	return string(b)
}

func TestWordsByForm(t *testing.T) {
	r := rand.New(rand.NewSource(101))
	seen := map[api.Errno]int{}
	for range 60000 {
		line := randomText(r, []string{"a  \"\"\\n~!", "a   \"\"\"\\\\nq#", "aaa    \"\"\"\"\"\"\"\"\\n\t\x7f", "\" \\\"n"}[r.Intn(4)], 5+r.Intn(50))
		if r.Intn(10) == 0 {
			line = strings.Repeat("a ", r.Intn(30)) + line
		}
		want, place, wrong := wordsByForm(line)
		seen[wrong]++
		if got, at, e := desk.Words(line); !slices.Equal(got, want) || at != place || e != wrong {
			t.Fatalf("%q: %q %d %d, want %q %d %d", line, got, at, e, want, place, wrong)
		}
	}
	if min(seen[api.OK], seen[api.ErrWord], seen[api.ErrLong]) < 100 {
		t.Error("too few cases:", seen)
	}
}

func TestQuote(t *testing.T) {
	for s, want := range map[string]string{
		"": `""`, "a b": `"a b"`, "a\n\"\\": `"a\n\"\\"`, "~ ": `"~ "`, "n\\n": `"n\\n"`,
		"\t": "", "a\x7f": "", "\x1f": "", "\x00": "", "\xc3\xa9": "", "\r\n": "",
	} {
		if got := desk.Quote(s); got != want {
			t.Errorf("%q: %s, want %s", s, got, want)
		}
	}
	r := rand.New(rand.NewSource(102))
	for range 5000 {
		s := randomText(r, "ab \"\\n\n~#0", 30)
		w, at, e := desk.Words("x " + desk.Quote(s) + " y")
		if want := []string{"x", `"` + s, "y"}; !slices.Equal(w, want) || at != 0 || e != api.OK {
			t.Errorf("%q: %q %d %d", s, w, at, e)
		}
	}
	for b := range 256 {
		may := b == '\n' || b >= 0x20 && b <= 0x7e
		if q := desk.Quote("a" + string([]byte{byte(b)}) + "c"); (q != "") != may {
			t.Errorf("the byte %x: %s", b, q)
		}
	}
}
