package rule

import (
	"strconv"
	"strings"

	"ullage/api"
)

// wrong is the panic of a reader: the line, and the word of it (both from 1 on), that may not be as it is. The word may be one that is missing.
type wrong struct{ line, word int }

// reader reads the words of a line.
type reader struct {
	line  int
	words []string
	at    int        // the index of the next word
	terms []api.Term // of the condition that is read
	deep  int        // how many parentheses and "not" the next word stands within
}

// readerOf reads a line with this number.
func readerOf(line string, number int) *reader {
	return &reader{line: number, words: strings.FieldsFunc(line, func(r rune) bool { return r == ' ' })}
}

// refuse leaves the reader: the next word may not stand here.
func (r *reader) refuse() { panic(wrong{r.line, r.at + 1}) }

// next is the next word; empty if there is none.
func (r *reader) next() string {
	if r.at == len(r.words) {
		return ""
	}
	return r.words[r.at]
}

// take passes the next word, if it is this one.
func (r *reader) take(word string) bool {
	if r.next() != word {
		return false
	}
	r.at++
	return true
}

// need passes the next word, which must be this one.
func (r *reader) need(word string) {
	if !r.take(word) {
		r.refuse()
	}
}

// end needs that there are no more words.
func (r *reader) end() {
	if r.at < len(r.words) {
		r.refuse()
	}
}

// name passes a name.
func (r *reader) name() string {
	word := r.next()
	if !isName(word) {
		r.refuse()
	}
	r.at++
	return word
}

// number passes one of these numbers. It has the right form exactly if it is written again in the same way.
func (r *reader) number(all api.Range) int {
	word := r.next()
	n, err := strconv.Atoi(word)
	if err != nil || strconv.Itoa(n) != word || !within(one(n), all) {
		r.refuse()
	}
	r.at++
	return n
}

// add adds a term to the condition, and returns its index.
func (r *reader) add(t api.Term) int {
	r.terms = append(r.terms, t)
	return len(r.terms) - 1
}

// condition passes a condition.
func (r *reader) condition() api.Cond {
	r.terms = nil
	r.either()
	return api.Cond{Terms: r.terms}
}

// joined passes parts that a word joins from the left to terms of this kind, and returns the index of the last one.
func (r *reader) joined(word string, kind int, part func() int) int {
	i := part()
	for r.take(word) {
		j := part()
		i = r.add(api.Term{Kind: kind, A: i, B: j})
	}
	return i
}

// either passes what is joined by "or", and returns the index of its term.
func (r *reader) either() int { return r.joined("or", api.TmOr, r.all) }

// all passes what is joined by "and", and returns the index of its term.
func (r *reader) all() int { return r.joined("and", api.TmAnd, r.single) }

// single passes what "and" joins, and returns the index of its term.
func (r *reader) single() int {
	switch r.next() {
	case "true":
		r.at++
		return r.add(api.Term{Kind: api.TmTrue})
	case "not":
		i := r.inside(r.single)
		return r.add(api.Term{Kind: api.TmNot, A: i})
	case "(":
		i := r.inside(r.either)
		r.need(")")
		return i
	}
	return r.comparison()
}

// inside passes the next word, and what is read within it.
func (r *reader) inside(read func() int) int {
	if r.deep == api.MaxDeep {
		r.refuse()
	}
	r.at++
	r.deep++
	i := read()
	r.deep--
	return i
}

// comparison passes a comparison, and returns the index of its term.
func (r *reader) comparison() int {
	name := r.name()
	kind, reversed := r.operator()
	n := r.number(allValues())
	i := r.add(api.Term{Kind: kind, Name: name, Num: n})
	if reversed {
		return r.add(api.Term{Kind: api.TmNot, A: i})
	}
	return i
}

// operator passes one, and returns the kind of its comparison, and whether it asks that this is not so.
func (r *reader) operator() (int, bool) {
	word := r.next()
	for _, kind := range [...]int{api.TmLess, api.TmMost, api.TmIs} {
		for _, reversed := range [...]bool{false, true} {
			if word == operatorOf(kind, reversed) {
				r.at++
				return kind, reversed
			}
		}
	}
	r.refuse()
	return 0, false
}

// operatorOf is the word for a comparison, or for one that is not so.
func operatorOf(kind int, reversed bool) string {
	word, other := "=", "!="
	switch kind {
	case api.TmLess:
		word, other = "<", ">="
	case api.TmMost:
		word, other = "<=", ">"
	}
	if reversed {
		return other
	}
	return word
}
