package rule

import (
	"slices"
	"strconv"
	"strings"

	"ullage/api"
)

// phrase is what is printed of a term.
type phrase struct {
	kind  int    // of the term
	text  string // empty if terms is above MaxTerms
	terms int    // how many ParseCond of the text returns; MaxTerms + 1 if there are more
	deep  int    // how many parentheses and "not" stand within each other
}

// short leaves out a text that is too long to be printed: each term that uses another one twice would double it.
func (p phrase) short() phrase {
	if p.terms > api.MaxTerms {
		p.text, p.terms = "", api.MaxTerms+1
	}
	return p
}

// wrap puts the phrase of a term of one of these kinds in parentheses.
func (p phrase) wrap(kinds ...int) phrase {
	if slices.Contains(kinds, p.kind) {
		p.text = "( " + p.text + " )"
		p.deep++
	}
	return p
}

// joined is the phrase of a TmAnd or a TmOr.
func joined(kind int, a phrase, word string, b phrase) phrase {
	return phrase{kind, a.text + word + b.text, a.terms + b.terms + 1, max(a.deep, b.deep)}.short()
}

// comparison is what is printed of a comparison, or of a TmNot of it.
func comparison(t api.Term, reversed bool) string {
	return t.Name + " " + operatorOf(t.Kind, reversed) + " " + strconv.Itoa(t.Num)
}

// phraseOf is the phrase of the term t; ahead are those of all terms ahead of it.
func phraseOf(t api.Term, terms []api.Term, ahead []phrase) phrase {
	switch t.Kind {
	case api.TmTrue:
		return phrase{kind: t.Kind, text: "true", terms: 1}
	case api.TmNot:
		if isComparison(terms[t.A]) {
			return phrase{kind: t.Kind, text: comparison(terms[t.A], true), terms: 2}
		}
		a := ahead[t.A].wrap(api.TmAnd, api.TmOr)
		return phrase{t.Kind, "not " + a.text, a.terms + 1, a.deep + 1}.short()
	case api.TmAnd:
		return joined(t.Kind, ahead[t.A].wrap(api.TmOr), " and ", ahead[t.B].wrap(api.TmAnd, api.TmOr))
	case api.TmOr:
		return joined(t.Kind, ahead[t.A], " or ", ahead[t.B].wrap(api.TmOr))
	}
	return phrase{kind: t.Kind, text: comparison(t, false), terms: 1}
}

// isPrintable reports whether a condition is valid for some facts.
func isPrintable(c api.Cond) bool {
	if len(c.Terms) == 0 || len(c.Terms) > api.MaxTerms {
		return false
	}
	for i, t := range c.Terms {
		if !isTerm(t, i) || isComparison(t) && !isName(t.Name) {
			return false
		}
	}
	return true
}

// PrintCond writes a condition as a text.
func PrintCond(c api.Cond) (string, api.Errno) {
	if !isPrintable(c) {
		return "", api.ErrCond
	}
	var all []phrase
	for _, t := range c.Terms {
		p := phraseOf(t, c.Terms, all)
		all = append(all, p)
	}
	last := all[len(all)-1]
	if last.deep > api.MaxDeep {
		return "", api.ErrCond
	}
	// A text of at most MaxTerms terms is far below MaxSource bytes.
	if last.terms > api.MaxTerms {
		return "", api.ErrLong
	}
	return last.text, api.OK
}

// printRule is the line of a valid rule.
func printRule(r api.Rule) (string, api.Errno) {
	when, e := PrintCond(r.When)
	must, f := PrintCond(r.Must)
	if e == api.ErrCond || f == api.ErrCond {
		return "", api.ErrCond
	}
	if e != api.OK || f != api.OK {
		return "", api.ErrLong
	}
	words := []string{"rule", r.Name, strconv.Itoa(r.From), strconv.Itoa(r.To), "when", when, "must", must}
	if len(r.Unless) > 0 {
		words = append(words, "unless")
		words = append(words, r.Unless...)
	}
	return strings.Join(words, " ") + "\n", api.OK
}

// Print writes a code as a text.
func Print(c api.Code) (string, api.Errno) {
	if e := Check(c); e != api.OK {
		return "", e
	}
	var b strings.Builder
	b.WriteString("code " + c.Name + "\n")
	for _, f := range c.Facts {
		b.WriteString("fact " + f.Name + " " + strconv.Itoa(f.Value.Lo) + " " + strconv.Itoa(f.Value.Hi) + "\n")
	}
	long := false
	for _, r := range c.Rules {
		line, e := printRule(r)
		switch e {
		case api.ErrCond:
			return "", e
		case api.ErrLong:
			long = true
		}
		b.WriteString(line)
	}
	if long || b.Len() > api.MaxSource {
		return "", api.ErrLong
	}
	return b.String(), api.OK
}
