package rule

import (
	"cmp"
	"slices"

	"ullage/api"
)

// isReserved reports whether a word is one of the language, and so no name.
func isReserved(word string) bool {
	switch word {
	case "code", "fact", "rule", "when", "must", "unless", "and", "or", "not", "true":
		return true
	}
	return false
}

// isName reports whether a text is a name.
func isName(s string) bool {
	if len(s) < 1 || len(s) > api.MaxName || isReserved(s) {
		return false
	}
	for i, b := range []byte(s) {
		letter := 'a' <= b && b <= 'z'
		digit := '0' <= b && b <= '9'
		if !letter && (i == 0 || !digit) {
			return false
		}
	}
	return true
}

// within reports whether r has numbers, all of which are numbers of all.
func within(r, all api.Range) bool {
	return all.Lo <= r.Lo && r.Lo <= r.Hi && r.Hi <= all.Hi
}

// one has only the number n.
func one(n int) api.Range { return api.Range{Lo: n, Hi: n} }

// allValues has the values that facts may have at all.
func allValues() api.Range { return api.Range{Lo: -api.MaxValue, Hi: api.MaxValue} }

// isDay reports whether a day is one.
func isDay(day int) bool { return 0 <= day && day <= api.MaxDay }

// factAt is the index of a fact; -1 if there is none.
func factAt(l []api.Fact, name string) int {
	return slices.IndexFunc(l, func(f api.Fact) bool { return f.Name == name })
}

// isComparison reports whether a term compares a fact.
func isComparison(t api.Term) bool {
	return t.Kind == api.TmLess || t.Kind == api.TmMost || t.Kind == api.TmIs
}

// isTerm reports whether the term with the index at is as it must be, but for its name.
func isTerm(t api.Term, at int) bool {
	ahead := func(i int) bool { return 0 <= i && i < at }
	switch t.Kind {
	case api.TmTrue:
		return t == api.Term{Kind: t.Kind}
	case api.TmLess, api.TmMost, api.TmIs:
		return t == api.Term{Kind: t.Kind, Name: t.Name, Num: t.Num} && within(one(t.Num), allValues())
	case api.TmNot:
		return t == api.Term{Kind: t.Kind, A: t.A} && ahead(t.A)
	case api.TmAnd, api.TmOr:
		return t == api.Term{Kind: t.Kind, A: t.A, B: t.B} && ahead(t.A) && ahead(t.B)
	}
	return false
}

// CheckCond reports whether a condition about facts is valid.
func CheckCond(f []api.Fact, c api.Cond) api.Errno {
	if len(c.Terms) > api.MaxTerms {
		return api.ErrLong
	}
	if len(c.Terms) == 0 {
		return api.ErrCond
	}
	for i, t := range c.Terms {
		if !isTerm(t, i) {
			return api.ErrCond
		}
		if isComparison(t) && factAt(f, t.Name) < 0 {
			return api.ErrName
		}
	}
	return api.OK
}

// checkFacts reports whether facts are valid, and have different names.
func checkFacts(l []api.Fact) api.Errno {
	for i, f := range l {
		if !isName(f.Name) || factAt(l[:i], f.Name) >= 0 {
			return api.ErrName
		}
		if !within(f.Value, allValues()) {
			return api.ErrFact
		}
	}
	return api.OK
}

// checkUnless reports whether the names of an Unless are valid, behind the rules of ahead.
func checkUnless(names []string, ahead api.Code) api.Errno {
	if len(names) > api.MaxUnless {
		return api.ErrLong
	}
	for i, name := range names {
		if Find(ahead, name) < 0 || slices.Contains(names[:i], name) {
			return api.ErrRule
		}
	}
	return api.OK
}

// checkRule reports whether the rule of a code with this index is valid.
func checkRule(c api.Code, i int) api.Errno {
	r, ahead := c.Rules[i], api.Code{Rules: c.Rules[:i]}
	if !isName(r.Name) || Find(ahead, r.Name) >= 0 {
		return api.ErrName
	}
	if !isDay(r.From) || !isDay(r.To) || r.From > r.To {
		return api.ErrDay
	}
	return cmp.Or(CheckCond(c.Facts, r.When), CheckCond(c.Facts, r.Must), checkUnless(r.Unless, ahead))
}

// Check reports whether a code is valid.
func Check(c api.Code) api.Errno {
	switch {
	case !isName(c.Name):
		return api.ErrName
	case len(c.Facts) == 0:
		return api.ErrCode
	case len(c.Facts) > api.MaxFacts || len(c.Rules) > api.MaxRules:
		return api.ErrLong
	}
	if e := checkFacts(c.Facts); e != api.OK {
		return e
	}
	for i := range c.Rules {
		if e := checkRule(c, i); e != api.OK {
			return e
		}
	}
	if tooMany(cutsOf(c.Facts, conditions(c))) {
		return api.ErrLong
	}
	return api.OK
}

// checkWhich reports whether a code has a rule with this index.
func checkWhich(c api.Code, rule int) api.Errno {
	if rule < 0 || rule >= len(c.Rules) {
		return api.ErrWhich
	}
	return api.OK
}

// checkDay reports whether a day is one.
func checkDay(day int) api.Errno {
	if !isDay(day) {
		return api.ErrDay
	}
	return api.OK
}

// checkFactsFor reports whether f are facts for a code.
func checkFactsFor(c api.Code, f []api.Fact) api.Errno {
	if len(f) != len(c.Facts) {
		return api.ErrFact
	}
	for i, x := range c.Facts {
		if f[i].Name != x.Name || !within(f[i].Value, x.Value) {
			return api.ErrFact
		}
	}
	return api.OK
}
