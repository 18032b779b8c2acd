package desk

import (
	"slices"
	"strconv"
	"strings"

	"ullage/api"
)

// form is what a line of a command has: its word, then so many numbers, then so many texts.
type form struct {
	word           string
	numbers, texts int
}

// forms has the form of each command, by its kind; no command has the kind 0.
func forms() [api.CmdBooks + 1]form {
	return [...]form{
		api.CmdLength:   {"length", 1, 0},
		api.CmdTable:    {"table", 1, 1},
		api.CmdCross:    {"cross", 1, 1},
		api.CmdLight:    {"light", 6, 0},
		api.CmdHold:     {"hold", 11, 3},
		api.CmdTank:     {"tank", 3, 3},
		api.CmdCode:     {"code", 0, 1},
		api.CmdGiven:    {"given", 2, 1},
		api.CmdDay:      {"day", 1, 0},
		api.CmdMost:     {"most", 1, 0},
		api.CmdFill:     {"fill", 6, 0},
		api.CmdLevel:    {"level", 6, 0},
		api.CmdLot:      {"lot", 4, 0},
		api.CmdJob:      {"job", 9, 0},
		api.CmdOpen:     {"open", 2, 0},
		api.CmdRain:     {"rain", 2, 0},
		api.CmdPassage:  {"passage", 4, 0},
		api.CmdClock:    {"clock", 4, 0},
		api.CmdForecast: {"forecast", 5, 0},
		api.CmdClear:    {"clear", 0, 0},
		api.CmdPour:     {"pour", 5, 0},
		api.CmdPair:     {"pair", 10, 0},
		api.CmdDeed:     {"deed", 5, 0},
		api.CmdNote:     {"note", 8, 0},
		api.CmdOffer:    {"offer", 2, 0},
		api.CmdDeliver:  {"deliver", 1, 0},
		api.CmdLose:     {"lose", 1, 0},
		api.CmdDouble:   {"double", 1, 0},
		api.CmdRestart:  {"restart", 2, 0},
		api.CmdFacts:    {"facts", 0, 0},
		api.CmdJudge:    {"judge", 0, 0},
		api.CmdMargin:   {"margin", 0, 0},
		api.CmdProve:    {"prove", 1, 0},
		api.CmdWhy:      {"why", 5, 0},
		api.CmdPlan:     {"plan", 1, 0},
		api.CmdBlocked:  {"blocked", 1, 0},
		api.CmdTimes:    {"times", 2, 0},
		api.CmdAccounts: {"accounts", 0, 0},
		api.CmdShares:   {"shares", 1, 0},
		api.CmdBurnt:    {"burnt", 0, 0},
		api.CmdEnough:   {"enough", 3, 0},
		api.CmdClosed:   {"closed", 2, 0},
		api.CmdCalm:     {"calm", 4, 0},
		api.CmdLedger:   {"ledger", 1, 0},
		api.CmdDisputes: {"disputes", 1, 0},
		api.CmdAgreed:   {"agreed", 2, 0},
		api.CmdBooks:    {"books", 0, 0},
	}
}

// isNumber reports whether a number may be one of a command.
func isNumber(n int) bool { return isBetween(n, -api.MaxWide, api.MaxWide) }

// numberOf reads a number; false if the word is none. It has the right form exactly if it is written again in the same way.
func numberOf(text string) (int, bool) {
	n, err := strconv.Atoi(text)
	if err != nil || strconv.Itoa(n) != text || !isNumber(n) {
		return 0, false
	}
	return n, true
}

// taker takes the words of a line, one after the other.
type taker struct {
	line string
	rest []word
}

// place is the place of the next word, or that behind the line if there is none.
func (t *taker) place() int {
	if len(t.rest) == 0 {
		return len(t.line)
	}
	return t.rest[0].at
}

// refuse leaves the taker: the next word is not as it must be, or is missing.
func (t *taker) refuse() { panic(wrong{t.place(), api.ErrLine}) }

// take passes the next word, which must suit.
func (t *taker) take(suits func(w word) bool) word {
	if len(t.rest) == 0 || !suits(t.rest[0]) {
		t.refuse()
	}
	w := t.rest[0]
	t.rest = t.rest[1:]
	return w
}

// kind passes the word of a command, and returns its kind.
func (t *taker) kind() int {
	all := forms()
	kind := 0
	t.take(func(w word) bool {
		kind = slices.IndexFunc(all[:], func(f form) bool { return f.word == w.text })
		return kind > 0
	})
	return kind
}

// number passes a number.
func (t *taker) number() int {
	n := 0
	t.take(func(w word) bool {
		var ok bool
		n, ok = numberOf(w.text)
		return ok
	})
	return n
}

// end needs that there are no more words.
func (t *taker) end() {
	if len(t.rest) > 0 {
		t.refuse()
	}
}

// quoted passes a quoted word, and returns what it stands for.
func (t *taker) quoted() string { return t.take(word.isQuoted).text[1:] }

// command passes all words.
func (t *taker) command() api.Command {
	c := api.Command{Kind: t.kind()}
	f := forms()[c.Kind]
	for range f.numbers {
		n := t.number()
		c.Args = append(c.Args, n)
	}
	for range f.texts {
		s := t.quoted()
		c.Texts = append(c.Texts, s)
	}
	t.end()
	return c
}

// Parse reads a line.
func Parse(line string) (c api.Command, at int, e api.Errno) {
	defer func() {
		if w, ok := recover().(wrong); ok {
			c, at, e = api.Command{}, w.at, w.e
		}
	}()
	t := &taker{line: line}
	if len(line) <= api.MaxLine && strings.HasPrefix(line, "#") {
		t.refuse()
	}
	t.rest = wordsOf(line)
	return t.command(), 0, api.OK
}

// isRight reports whether a command is as the table says.
func isRight(c api.Command) bool {
	if !isBetween(c.Kind, 1, api.CmdBooks) {
		return false
	}
	f := forms()[c.Kind]
	if len(c.Args) != f.numbers || len(c.Texts) != f.texts {
		return false
	}
	noNumber := func(n int) bool { return !isNumber(n) }
	noText := func(s string) bool { return Quote(s) == "" }
	return !slices.ContainsFunc(c.Args, noNumber) && !slices.ContainsFunc(c.Texts, noText)
}

// row writes numbers, with one space between them.
func row(numbers ...int) string {
	var words []string
	for _, n := range numbers {
		words = append(words, strconv.Itoa(n))
	}
	return strings.Join(words, " ")
}

// headed is a row with a word ahead.
func headed(word string, numbers ...int) string {
	if len(numbers) == 0 {
		return word
	}
	return word + " " + row(numbers...)
}

// Print writes a command as a line.
func Print(c api.Command) (string, api.Errno) {
	if !isRight(c) {
		return "", api.ErrLine
	}
	line := headed(forms()[c.Kind].word, c.Args...)
	for _, s := range c.Texts {
		line += " " + Quote(s)
	}
	if len(line) > api.MaxLine {
		return "", api.ErrLong
	}
	return line, api.OK
}
