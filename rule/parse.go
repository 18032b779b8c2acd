package rule

import (
	"strings"

	"ullage/api"
)

// longest is the greatest number of 13 digits.
const longest = 9999999999999

// ParseCond reads a condition.
func ParseCond(text string) (c api.Cond, word int, e api.Errno) {
	defer func() {
		if w, ok := recover().(wrong); ok {
			c, word, e = api.Cond{}, w.word, api.ErrForm
		}
	}()
	if len(text) > api.MaxSource {
		return api.Cond{}, 0, api.ErrLong
	}
	r := readerOf(text, 1)
	c = r.condition()
	r.end()
	if len(c.Terms) > api.MaxTerms {
		return api.Cond{}, 0, api.ErrLong
	}
	return c, 0, api.OK
}

// Parse reads a code's text.
func Parse(text string) (c api.Code, line int, e api.Errno) {
	defer func() {
		if w, ok := recover().(wrong); ok {
			c, line, e = api.Code{}, w.line, api.ErrForm
		}
	}()
	if len(text) > api.MaxSource {
		return api.Code{}, 0, api.ErrLong
	}
	c = readCode(text)
	if e := Check(c); e != api.OK {
		return api.Code{}, 0, e
	}
	return c, 0, api.OK
}

// readCode reads the lines of a code.
func readCode(text string) api.Code {
	var c api.Code
	n := 0
	for text != "" {
		var line string
		line, text, _ = strings.Cut(text, "\n")
		n++
		r := readerOf(line, n)
		if len(r.words) > 0 && line[0] != '#' {
			r.codeLine(&c)
		}
	}
	if c.Name == "" {
		panic(wrong{line: n + 1})
	}
	return c
}

// codeLine reads a line of a code. The code has no name as long as no line has said anything.
func (r *reader) codeLine(c *api.Code) {
	switch {
	case c.Name == "":
		r.need("code")
		c.Name = r.name()
	case r.take("fact"):
		c.Facts = append(c.Facts, r.fact())
	case r.take("rule"):
		c.Rules = append(c.Rules, r.rule())
	default:
		r.refuse()
	}
	r.end()
}

// fact passes what stands behind "fact".
func (r *reader) fact() api.Fact {
	var f api.Fact
	f.Name = r.name()
	f.Value.Lo = r.number(api.Range{Lo: -longest, Hi: longest})
	f.Value.Hi = r.number(api.Range{Lo: -longest, Hi: longest})
	return f
}

// rule passes what stands behind "rule".
func (r *reader) rule() api.Rule {
	var x api.Rule
	x.Name = r.name()
	x.From = r.number(api.Range{Hi: longest})
	x.To = r.number(api.Range{Hi: longest})
	r.need("when")
	x.When = r.shortCondition()
	r.need("must")
	x.Must = r.shortCondition()
	if r.take("unless") {
		x.Unless = r.names()
	}
	return x
}

// shortCondition passes a condition that has at most MaxTerms terms.
func (r *reader) shortCondition() api.Cond {
	c := r.condition()
	if len(c.Terms) > api.MaxTerms {
		r.refuse()
	}
	return c
}

// names passes names up to the end, at least one.
func (r *reader) names() []string {
	names := []string{r.name()}
	for r.at < len(r.words) {
		names = append(names, r.name())
	}
	return names
}
