package desk

import (
	"ullage/api"
	"ullage/book"
	"ullage/cond"
	"ullage/parcel"
	"ullage/plan"
	"ullage/rule"
	"ullage/voyage"
)

// lines makes a line of each element of a list.
func lines[T any](l []T, line func(x T) string) []string {
	var all []string
	for _, x := range l {
		all = append(all, line(x))
	}
	return all
}

// orNone is an answer, or what is told where there is nothing to tell.
func orNone(answer []string) []string {
	if len(answer) == 0 {
		return []string{"none"}
	}
	return answer
}

// said is the word for an answer of a rule, or of package voyage.
func said(answer int) string {
	switch answer {
	case api.No:
		return "no"
	case api.Yes:
		return "yes"
	}
	return "maybe"
}

// rangeRow is the answer that is a range.
func rangeRow(r api.Range) []string { return []string{row(r.Lo, r.Hi)} }

func (d *Desk) facts(n []int) []string {
	return lines(must(Facts(d.sailing.Voyage)), func(f api.Fact) string { return headed(f.Name, f.Value.Lo, f.Value.Hi) })
}

func (d *Desk) judge(n []int) []string {
	f := must(Facts(d.sailing.Voyage))
	l := must(rule.Judge(d.Code, d.Day, f))
	return orNone(lines(l, func(v api.Verdict) string {
		return d.Code.Rules[v.Rule].Name + " " + said(v.Binds) + " " + said(v.Kept)
	}))
}

// load is what the ship has, if the voyage is valid.
func (d *Desk) load() api.Load {
	need(CheckVoyage(d.sailing.Voyage))
	return must(loadOf(d.sailing.Voyage))
}

func (d *Desk) margin(n []int) []string {
	load := d.load()
	t := must(cond.Margin(d.Ship, load))
	return lines(t.Points, func(p api.Point) string { return row(p.X, p.Lo, p.Hi) })
}

func (d *Desk) prove(n []int) []string {
	load := d.load()
	c := must(cond.Prove(d.Ship, load, d.Most, n[0]))
	points := lines(c.Points, func(p api.Point) string { return row(p.X, p.Lo) })
	return append([]string{headed("cert", len(points))}, points...)
}

// reason is the first instant of the stage of some numbers at which a rule may be broken, and the rule.
func (d *Desk) reason(n []int) string {
	i, name, e := Why(d.sailing.Voyage, poursOf(n))
	need(e)
	return row(i) + " " + name
}

func (d *Desk) why(n []int) []string { return []string{d.reason(n)} }

// work is the work of the tasks.
func (d *Desk) work(change int) api.Work { return must(Work(d.sailing.Voyage, d.tasks, change)) }

func (d *Desk) best(n []int) []string {
	w := d.work(n[0])
	p := must(plan.Best(w))
	stages := lines(p.Legs, func(leg int) string { return headed("stage", w.Legs[leg].Add) })
	return append([]string{headed("handling", must(plan.Cost(w, p)))}, stages...)
}

func (d *Desk) blocked(n []int) []string {
	b := must(plan.Blocked(d.work(n[0])))
	return []string{row(b.From, b.To)}
}

func (d *Desk) times(n []int) []string {
	w := d.work(n[0])
	p := must(plan.Best(w))
	return lines(must(plan.Times(w, p, d.berth, n[1])), func(s api.Span) string { return row(s.From, s.To) })
}

func (d *Desk) accounts(n []int) []string {
	return orNone(lines(must(parcel.Accounts(d.lots, d.deeds)), func(a api.Account) string {
		return row(a.Lot, a.Poured, a.Drawn, a.Lost, a.Left)
	}))
}

func (d *Desk) shares(n []int) []string {
	s := d.stock()
	held := must(parcel.Held(s, n[0]))
	need(unless(held > 0, api.ErrNone))
	var all []string
	for _, x := range d.lots {
		if r := must(parcel.Share(s, n[0], x.Id)); r.N > 0 {
			all = append(all, row(x.Id, r.N, r.D))
		}
	}
	return all
}

func (d *Desk) burnt(n []int) []string { return rangeRow(must(voyage.Burnt(d.passages))) }

func (d *Desk) enough(n []int) []string {
	return []string{said(must(voyage.Enough(pairAt(n, 0), d.passages, n[2])))}
}

func (d *Desk) closed(n []int) []string {
	return []string{said(must(voyage.Closed(d.clocks, n[0], n[1])))}
}

func (d *Desk) calm(n []int) []string {
	return []string{said(must(voyage.Calm(d.forecasts, n[0], n[1], n[2], n[3])))}
}

// bookOf is the book of a party.
func (d *Desk) bookOf(party int) api.Book { return d.nodeOf(party).Store.Book }

func (d *Desk) ledger(n []int) []string {
	return orNone(lines(must(book.Ledger(d.bookOf(n[0]))), func(f api.Figure) string {
		return row(f.Kind, f.Lot, f.At.Party, f.At.Seq, f.Heir.Party, f.Heir.Seq, f.Value.Lo, f.Value.Hi)
	}))
}

func (d *Desk) disputes(n []int) []string {
	return orNone(lines(must(book.Disputes(d.bookOf(n[0]))), func(x api.Dispute) string {
		return row(x.Lot, x.A.Party, x.A.Seq, x.B.Party, x.B.Seq)
	}))
}

func (d *Desk) agreed(n []int) []string {
	return rangeRow(must(book.Agreed(d.bookOf(n[0]), n[1])))
}

func (d *Desk) books(n []int) []string {
	return lines(d.nodes[:], func(x api.Node) string { return headed("entries", len(x.Store.Book.Entries)) })
}
