package desk

import (
	"slices"
	"strings"

	"ullage/api"
	"ullage/cond"
)

// What the lines of a bundle begin with.
const (
	askedMark = "> "
	toldMark  = "< "
)

// linesOf are the lines of a text.
func linesOf(text string) []string {
	if text == "" {
		return nil
	}
	return strings.Split(strings.TrimSuffix(text, "\n"), "\n")
}

// saysNothing reports whether a line of a script has no command.
func saysNothing(line string) bool {
	return strings.HasPrefix(line, "#") || strings.Trim(line, " ") == ""
}

// step is a line of a script that says something.
type step struct {
	line    string
	command api.Command
}

// stepsOf reads a script. With an error of a line it returns its number.
func stepsOf(text string) ([]step, int, api.Errno) {
	if len(text) > api.MaxScript {
		return nil, 0, api.ErrLong
	}
	all := linesOf(text)
	if len(slices.DeleteFunc(slices.Clone(all), saysNothing)) > api.MaxLines {
		return nil, 0, api.ErrLong
	}
	var l []step
	for i, line := range all {
		if saysNothing(line) {
			continue
		}
		c, _, e := Parse(line)
		if e != api.OK {
			return nil, i + 1, e
		}
		l = append(l, step{line, c})
	}
	return l, 0, api.OK
}

// play does a script at a new desk, and returns what show makes of each step and its answer.
func play(text string, show func(s step, answer []string) []string) (string, int, api.Errno) {
	steps, n, e := stepsOf(text)
	if e != api.OK {
		return "", n, e
	}
	d := New()
	var b strings.Builder
	for _, s := range steps {
		for _, line := range show(s, d.Do(s.command)) {
			b.WriteString(line + "\n")
		}
	}
	return b.String(), 0, api.OK
}

// Run runs a script.
func Run(text string) (string, int, api.Errno) {
	return play(text, func(s step, answer []string) []string { return answer })
}

// Bundle returns the bundle of a script.
func Bundle(text string) (string, int, api.Errno) {
	b, n, e := play(text, func(s step, answer []string) []string {
		told := lines(answer, func(line string) string { return toldMark + line })
		return append([]string{askedMark + s.line}, told...)
	})
	if e == api.OK && len(b) > api.MaxBundle {
		return "", 0, api.ErrLong
	}
	return b, n, e
}

// claim is a line of a bundle that asks something, with its number, and what the bundle tells of it. The first claim of a bundle asks nothing: it has what is told ahead of all lines that ask, and the number 0.
type claim struct {
	number int
	asked  string
	told   []string
}

// claimsOf are the claims of a bundle; with an error it returns the number of the line that has it.
func claimsOf(bundle string) ([]claim, int, api.Errno) {
	if len(bundle) > api.MaxBundle {
		return nil, 0, api.ErrLong
	}
	l := []claim{{}}
	for i, line := range linesOf(bundle) {
		last := &l[len(l)-1]
		switch {
		case strings.HasPrefix(line, askedMark):
			l = append(l, claim{number: i + 1, asked: line[len(askedMark):]})
		case strings.HasPrefix(line, toldMark):
			last.told = append(last.told, line[len(toldMark):])
		default:
			return nil, i + 1, api.ErrBundle
		}
	}
	return l, 0, api.OK
}

// Open returns the script and what was told of a bundle.
func Open(bundle string) (text, told string, line int, e api.Errno) {
	claims, n, e := claimsOf(bundle)
	if e != api.OK {
		return "", "", n, e
	}
	var asking, telling strings.Builder
	for _, c := range claims {
		if c.number > 0 {
			asking.WriteString(c.asked + "\n")
		}
		for _, line := range c.told {
			telling.WriteString(line + "\n")
		}
	}
	return asking.String(), telling.String(), 0, api.OK
}

// stepsAsked are the steps of the claims of a bundle, but for the first one; with an error it returns the number of the line that has it.
func stepsAsked(claims []claim) ([]step, int, api.Errno) {
	asked := lines(claims[1:], func(c claim) string { return c.asked })
	// The last line feed does not count, and is not put there.
	text := strings.Join(asked, "\n")
	if nothing := slices.IndexFunc(asked, saysNothing); nothing >= 0 && len(text) <= api.MaxScript {
		return nil, claims[1+nothing].number, api.ErrBundle
	}
	steps, n, e := stepsOf(text)
	// Of what is too long no line is told, be it a line, their number, or the script.
	if e == api.ErrLong {
		return nil, 0, e
	}
	return steps, claims[n].number, e
}

// point passes the angle and the margin of a certificate's point.
func (t *taker) point() api.Point {
	x := t.number()
	low := t.number()
	return api.Point{X: x, Lo: low, Hi: low}
}

// certOf reads a certificate from the lines of an answer; false if they are not those of one.
func certOf(told []string) (c api.Cert, ok bool) {
	defer func() {
		if _, bad := recover().(wrong); bad {
			c, ok = api.Cert{}, false
		}
	}()
	if len(told) == 0 {
		return api.Cert{}, false
	}
	t := &taker{rest: wordsOf(told[0])}
	t.take(func(w word) bool { return w.text == "cert" })
	many := t.number()
	t.end()
	for _, line := range told[1:] {
		t := &taker{rest: wordsOf(line)}
		p := t.point()
		t.end()
		c.Points = append(c.Points, p)
	}
	return c, many == len(c.Points)
}

// proves reports whether a certificate shows an area of what the desk has now, where the voyage is valid.
func (d *Desk) proves(c api.Cert, area int) bool {
	load, _ := loadOf(d.sailing.Voyage)
	return cond.Check(d.Ship, load, d.Most, area, c) == api.OK
}

// difference is the index of the first line in which two answers differ; -1 if there is none.
func difference(a, b []string) int {
	for i := range max(len(a), len(b)) {
		if i >= len(a) || i >= len(b) || a[i] != b[i] {
			return i
		}
	}
	return -1
}

// audit does a command, and returns the index of the first line of what is told of it that is wrong; -1 if there is none.
func (d *Desk) audit(c api.Command, told []string) int {
	due := d.Do(c)
	at := difference(due, told)
	if at < 0 || c.Kind != api.CmdProve {
		return at
	}
	// Another certificate may show the same, but none stands for an error.
	_, owed := certOf(due)
	cert, ok := certOf(told)
	if owed && ok && d.proves(cert, c.Args[0]) {
		return -1
	}
	return 0
}

// firstWrong is the number of the first line of a bundle that tells what is not so; 0 if there is none.
func firstWrong(claims []claim, steps []step) int {
	if len(claims[0].told) > 0 {
		return 1
	}
	d := New()
	for i, s := range steps {
		c := claims[1+i]
		if at := d.audit(s.command, c.told); at >= 0 {
			return c.number + 1 + at
		}
	}
	return 0
}

// Accept reports whether all that a bundle tells is so.
func Accept(bundle string) (int, api.Errno) {
	claims, n, e := claimsOf(bundle)
	if e != api.OK {
		return n, e
	}
	steps, n, e := stepsAsked(claims)
	if e != api.OK {
		return n, e
	}
	if n := firstWrong(claims, steps); n > 0 {
		return n, api.ErrTold
	}
	if bundle != "" && !strings.HasSuffix(bundle, "\n") {
		return len(linesOf(bundle)), api.ErrTold
	}
	return 0, api.OK
}
