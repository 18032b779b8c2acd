package rule

import (
	"cmp"
	"iter"
	"slices"

	"ullage/api"
)

// scene is what a term is judged by: the values of the facts, and which of the terms ahead of it are so.
type scene struct {
	values []int
	so     [api.MaxTerms]bool
}

// sense tells whether a term is so.
type sense func(s step, x *scene) bool

// step is a term that is ready to be judged: with the index of its fact, and its sense.
type step struct {
	term api.Term
	fact int
	is   sense
}

// senses has the sense of each kind of terms.
func senses() map[int]sense {
	return map[int]sense{
		api.TmTrue: func(s step, x *scene) bool { return true },
		api.TmLess: func(s step, x *scene) bool { return x.values[s.fact] < s.term.Num },
		api.TmMost: func(s step, x *scene) bool { return x.values[s.fact] <= s.term.Num },
		api.TmIs:   func(s step, x *scene) bool { return x.values[s.fact] == s.term.Num },
		api.TmNot:  func(s step, x *scene) bool { return !x.so[s.term.A] },
		api.TmAnd:  func(s step, x *scene) bool { return x.so[s.term.A] && x.so[s.term.B] },
		api.TmOr:   func(s step, x *scene) bool { return x.so[s.term.A] || x.so[s.term.B] },
	}
}

// formula is a valid condition that is ready to be judged.
type formula []step

// formulaOf makes a valid condition ready.
func formulaOf(c api.Cond, facts []api.Fact, all map[int]sense) formula {
	var f formula
	for _, t := range c.Terms {
		f = append(f, step{t, factAt(facts, t.Name), all[t.Kind]})
	}
	return f
}

// so reports whether the condition is so with these values.
func (f formula) so(values []int) bool {
	x := scene{values: values}
	for i, s := range f {
		x.so[i] = s.is(s, &x)
	}
	return x.so[len(f)-1]
}

// law is a rule that is ready to be judged.
type law struct {
	rule       api.Rule
	when, must formula
	unless     []int // the indices of rules
}

// laws are a valid code that is ready to be judged.
type laws struct {
	code  api.Code
	conds []api.Cond
	list  []law
}

// lawsOf makes a valid code ready.
func lawsOf(c api.Code) laws {
	l := laws{code: c, conds: conditions(c)}
	all := senses()
	for _, r := range c.Rules {
		x := law{rule: r, when: formulaOf(r.When, c.Facts, all), must: formulaOf(r.Must, c.Facts, all)}
		for _, name := range r.Unless {
			x.unless = append(x.unless, Find(c, name))
		}
		l.list = append(l.list, x)
	}
	return l
}

// truth tells of each rule, by its index, whether its conditions are so with some values.
type truth struct {
	values     []int
	when, must [api.MaxRules]bool
}

// truthOf judges the conditions with these values, which it keeps.
func (l laws) truthOf(values []int) truth {
	t := truth{values: values}
	for i, x := range l.list {
		t.when[i], t.must[i] = x.when.so(values), x.must.so(values)
	}
	return t
}

// truths yields one truth for each cell of the values that facts may have, in the order of the least values.
func (l laws) truths(f []api.Fact) iter.Seq[truth] {
	return func(yield func(truth) bool) {
		for values := range cells(cutsOf(f, l.conds)) {
			if !yield(l.truthOf(values)) {
				return
			}
		}
	}
}

// outcome tells of each rule, by its index, whether it binds and whether it is kept, on a day with some values.
type outcome struct {
	values      []int
	binds, kept [api.MaxRules]bool
}

// on judges the rules on a day.
func (l laws) on(day int, t truth) outcome {
	o := outcome{values: t.values}
	for i, x := range l.list {
		binds := inForce(x.rule, day) && t.when[i]
		for _, k := range x.unless {
			binds = binds && !o.binds[k]
		}
		o.binds[i], o.kept[i] = binds, !binds || t.must[i]
	}
	return o
}

// broken is the index of the first rule that is broken; -1 if all are kept.
func (l laws) broken(o outcome) int { return slices.Index(o.kept[:len(l.list)], false) }

// outcomes yields one outcome for each cell of the values that facts may have, in the order of the least values.
func (l laws) outcomes(day int, f []api.Fact) iter.Seq[outcome] {
	return func(yield func(outcome) bool) {
		for t := range l.truths(f) {
			if !yield(l.on(day, t)) {
				return
			}
		}
	}
}

// readyFor makes a code ready, if it is valid, day is one, and f are facts for it.
func readyFor(c api.Code, day int, f []api.Fact) (laws, api.Errno) {
	if e := cmp.Or(Check(c), checkDay(day), checkFactsFor(c, f)); e != api.OK {
		return laws{}, e
	}
	return lawsOf(c), api.OK
}

// kept answers whether all rules are kept.
func (l laws) kept(day int, f []api.Fact) int {
	return answer(l.outcomes(day, f), func(o outcome) bool { return l.broken(o) < 0 })
}
