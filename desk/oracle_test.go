package desk_test

import (
	"slices"
	"strconv"
	"strings"

	"ullage/api"
	"ullage/book"
	"ullage/cond"
	"ullage/desk"
	"ullage/fix"
	"ullage/hold"
	"ullage/parcel"
	"ullage/plan"
	"ullage/rule"
	"ullage/voyage"
)

// shipsNames are the names of the facts that the ship tells herself.
var shipsNames = []string{"tonnes", "draft", "trim", "fore", "aft", "gm", "heel", "flood", "area"}

// isFactName reports whether a name is one of chapter 4.
func isFactName(s string) bool {
	if s == "" || len(s) > 12 || slices.Contains([]string{"code", "fact", "rule", "when", "must", "unless", "and", "or", "not", "true"}, s) {
		return false
	}
	return strings.Trim(s, "abcdefghijklmnopqrstuvwxyz0123456789") == "" && s[0] >= 'a'
}

// mayBeGiven reports whether a fact is valid, and has none of the ship's names.
func mayBeGiven(f api.Fact) bool {
	return isFactName(f.Name) && !slices.Contains(shipsNames, f.Name) && -api.MaxValue <= f.Value.Lo && f.Value.Lo <= f.Value.Hi && f.Value.Hi <= api.MaxValue
}

// wantCheck is what CheckVoyage has to say.
func wantCheck(v api.Voyage) api.Errno {
	if cond.CheckShip(v.Ship) != api.OK {
		return api.ErrShip
	}
	if _, e := hold.Load(v.Holds, v.Fills, v.Tanks, v.Levels); e != api.OK {
		return e
	}
	if e := rule.Check(v.Code); e != api.OK {
		return e
	}
	if len(v.Given) > 8 {
		return api.ErrLong
	}
	seen := map[string]bool{}
	for _, f := range v.Given {
		if !mayBeGiven(f) || seen[f.Name] {
			return api.ErrFact
		}
		seen[f.Name] = true
	}
	if v.Day < 0 || v.Day > 100000 {
		return api.ErrDay
	}
	if v.Most < 0 || v.Most > 900 {
		return api.ErrArg
	}
	return api.OK
}

// wantFacts is what Facts has to say.
func wantFacts(v api.Voyage) ([]api.Fact, api.Errno) {
	if e := wantCheck(v); e != api.OK {
		return nil, e
	}
	load, _ := hold.Load(v.Holds, v.Fills, v.Tanks, v.Levels)
	ships, e := cond.Facts(v.Ship, load, v.Most)
	if e != api.OK {
		return nil, e
	}
	values := map[string]api.Range{}
	for _, f := range slices.Concat(v.Given, ships) {
		values[f.Name] = f.Value
	}
	var l []api.Fact
	for _, f := range v.Code.Facts {
		r, ok := values[f.Name]
		if !ok && slices.Contains(shipsNames, f.Name) {
			return nil, api.ErrNone
		}
		if !ok {
			r = f.Value
		}
		if r.Lo < f.Value.Lo || r.Hi > f.Value.Hi {
			return nil, api.ErrFact
		}
		l = append(l, api.Fact{Name: f.Name, Value: r})
	}
	return l, api.OK
}

// wantJudge is what Judge has to say.
func wantJudge(v api.Voyage) (int, api.Errno) {
	f, e := wantFacts(v)
	if e != api.OK {
		return 0, e
	}
	return rule.Kept(v.Code, v.Day, f)
}

// withFill is a voyage in which a hold has another fill.
func withFill(v api.Voyage, f api.Fill) api.Voyage {
	v.Fills = slices.Clone(v.Fills)
	for i, h := range v.Holds {
		if h.Id == f.Hold {
			v.Fills[i] = f
		}
	}
	return v
}

// fillOf is the fill of a hold.
func fillOf(v api.Voyage, id int) (api.Hold, api.Fill, bool) {
	for i, h := range v.Holds {
		if h.Id == id {
			return h, v.Fills[i], true
		}
	}
	return api.Hold{}, api.Fill{}, false
}

// behind pours one time.
func behind(v api.Voyage, p api.Pour) (api.Voyage, api.Errno) {
	h, f, ok := fillOf(v, p.Hold)
	if !ok {
		return api.Voyage{}, api.ErrHold
	}
	g, e := hold.Pour(h, f, p.Mass, p.Density)
	if e != api.OK {
		return api.Voyage{}, e
	}
	return withFill(v, g), api.OK
}

// onTheWay are the voyages while one or two holds come from their fills in a voyage to those in another one.
func onTheWay(v, w api.Voyage, ids ...int) []api.Voyage {
	ways := func(id int) []api.Fill {
		h, f, _ := fillOf(v, id)
		_, g, _ := fillOf(w, id)
		l, _ := hold.Between(h, f, g)
		return l
	}
	var l []api.Voyage
	for _, f := range ways(ids[0]) {
		if len(ids) == 1 {
			l = append(l, withFill(v, f))
			continue
		}
		for _, g := range ways(ids[1]) {
			l = append(l, withFill(withFill(v, f), g))
		}
	}
	return l
}

// wantStage is what Instants and Behind have to say.
func wantStage(v api.Voyage, l []api.Pour) ([]api.Voyage, api.Voyage, api.Errno) {
	if e := wantCheck(v); e != api.OK {
		return nil, api.Voyage{}, e
	}
	if len(l) != 1 && len(l) != 2 {
		return nil, api.Voyage{}, api.ErrArg
	}
	ids := []int{l[0].Hold}
	if len(l) == 2 {
		ids = append(ids, l[1].Hold)
		if ids[0] == ids[1] {
			return nil, api.Voyage{}, api.ErrArg
		}
	}
	w := v
	for _, p := range l {
		var e api.Errno
		if w, e = behind(w, p); e != api.OK {
			return nil, api.Voyage{}, e
		}
	}
	return onTheWay(v, w, ids...), w, api.OK
}

// wantBegin is what Begin has to say.
func wantBegin(v api.Voyage, l []api.Pour) (api.Voyage, int, api.Errno) {
	all, w, e := wantStage(v, l)
	if e != api.OK {
		return api.Voyage{}, 0, e
	}
	for i, x := range all {
		answer, e := wantJudge(x)
		if e != api.OK {
			return api.Voyage{}, i, e
		}
		if answer != api.Yes {
			return api.Voyage{}, i, api.ErrUnsafe
		}
	}
	return w, len(all), api.OK
}

// wantWhy is what Why has to say.
func wantWhy(v api.Voyage, l []api.Pour) (int, string, api.Errno) {
	all, _, e := wantStage(v, l)
	if e != api.OK {
		return 0, "", e
	}
	for i, x := range all {
		answer, e := wantJudge(x)
		if e != api.OK {
			return 0, "", e
		}
		if answer != api.Yes {
			f, _ := wantFacts(x)
			k, _, _ := rule.Breaks(x.Code, x.Day, f)
			return i, x.Code.Rules[k].Name, api.OK
		}
	}
	return 0, "", api.ErrNone
}

// ofMask is the voyage of a mask of tasks.
func ofMask(v api.Voyage, l []api.Task, mask int) (api.Voyage, bool) {
	for i, t := range l {
		if mask>>i&1 == 1 {
			var e api.Errno
			if v, e = behind(v, t.Pour); e != api.OK {
				return api.Voyage{}, false
			}
		}
	}
	return v, true
}

// wantTasks is the error of tasks, from ErrWork on.
func wantTasks(v api.Voyage, l []api.Task, change int) api.Errno {
	if change < 0 || change > 100000 {
		return api.ErrWork
	}
	for _, t := range l {
		if j := t.Job; j.Cost < 0 || j.Cost > 100000 || j.Spout < 0 || j.Spout > 3 || j.Minutes < 1 || j.Minutes > 10000 {
			return api.ErrWork
		}
	}
	for _, t := range l {
		_, _, ok := fillOf(v, t.Pour.Hold)
		d := t.Pour.Density
		switch {
		case !ok:
			return api.ErrHold
		case fix.CheckRange(t.Pour.Mass) != api.OK:
			return api.ErrRange
		case t.Pour.Mass.Lo < 0:
			return api.ErrArg
		case d.Lo < 100 || d.Lo > d.Hi || d.Hi > 2000:
			return api.ErrFill
		}
	}
	return api.OK
}

// isKept reports whether each instant from a mask of tasks on to another one surely keeps the rules.
func isKept(v api.Voyage, l []api.Task, from, add int) bool {
	a, ok := ofMask(v, l, from)
	b, fits := ofMask(v, l, from|add)
	if !ok || !fits {
		return false
	}
	var ids []int
	for i, t := range l {
		if add>>i&1 == 1 {
			ids = append(ids, t.Pour.Hold)
		}
	}
	if len(ids) == 2 && ids[0] == ids[1] {
		return false
	}
	for _, x := range onTheWay(a, b, ids...) {
		if answer, e := wantJudge(x); e != api.OK || answer != api.Yes {
			return false
		}
	}
	return true
}

// wantWork is what Work has to say.
func wantWork(v api.Voyage, l []api.Task, change int) (api.Work, api.Errno) {
	if e := wantCheck(v); e != api.OK {
		return api.Work{}, e
	}
	if len(l) == 0 {
		return api.Work{}, api.ErrNone
	}
	if len(l) > 4 {
		return api.Work{}, api.ErrLong
	}
	if e := wantTasks(v, l, change); e != api.OK {
		return api.Work{}, e
	}
	w := api.Work{Change: change}
	for _, t := range l {
		w.Jobs = append(w.Jobs, t.Job)
	}
	for from := range 1 << len(l) {
		for i := range l {
			for j := range l {
				add := 1<<i | 1<<j
				if i < j || from&add != 0 || i != j && l[i].Job.Spout == l[j].Job.Spout || !isKept(v, l, from, add) {
					continue
				}
				w.Legs = append(w.Legs, api.Leg{From: from, Add: add})
			}
		}
	}
	slices.SortFunc(w.Legs, func(a, b api.Leg) int { return (a.From-b.From)*1000 + a.Add - b.Add })
	return w, api.OK
}

// model is a desk in its plainest form.
type model struct {
	v         api.Voyage
	lots      []api.Lot
	deeds     []api.Deed
	tasks     []api.Task
	berth     api.Berth
	passages  []api.Passage
	clocks    []api.Clock
	forecasts []api.Forecast
	nodes     [4]api.Node
	wires     []api.Message
}

func newModel() *model {
	m := &model{}
	for p := range 4 {
		m.nodes[p], _ = book.NewNode(p)
	}
	return m
}

// do is what Do has to answer.
func (m *model) do(c api.Command) []string {
	s := slices.IndexFunc(shapes(), func(s shape) bool { return s.kind == c.Kind })
	if s < 0 || len(c.Args) != shapes()[s].numbers || len(c.Texts) != shapes()[s].texts {
		return []string{"error 90"}
	}
	for _, n := range c.Args {
		if n < -api.MaxWide || n > api.MaxWide {
			return []string{"error 90"}
		}
	}
	for _, s := range c.Texts {
		if strings.ContainsFunc(s, func(r rune) bool { return r != '\n' && (r < ' ' || r > '~') }) {
			return []string{"error 90"}
		}
	}
	kept := *m
	kept.v.Given, kept.v.Fills, kept.v.Levels, kept.wires = slices.Clone(m.v.Given), slices.Clone(m.v.Fills), slices.Clone(m.v.Levels), slices.Clone(m.wires)
	var answer []string
	var e api.Errno
	switch {
	case c.Kind <= api.CmdClear:
		answer, e = []string{"ok"}, m.set(c)
	case c.Kind <= api.CmdRestart:
		answer, e = m.act(c)
	default:
		answer, e = m.ask(c)
	}
	if e == api.OK {
		return answer
	}
	gone := m.wires
	*m = kept
	if c.Kind == api.CmdDeliver {
		m.wires = gone
	}
	return []string{"error " + strconv.Itoa(int(e))}
}

// tables reads the tables of texts.
func tables(texts []string) ([3]api.Table, api.Errno) {
	var l [3]api.Table
	for i, s := range texts {
		t, _, e := fix.Parse(s)
		if e != api.OK {
			return l, e
		}
		l[i] = t
	}
	return l, api.OK
}

// first is the first error of those that are told as they come.
func first(l ...any) api.Errno {
	for i := 0; i < len(l); i += 2 {
		if l[i].(bool) {
			return l[i+1].(api.Errno)
		}
	}
	return api.OK
}

// set does what sets up; it may leave anything behind where there is an error.
func (m *model) set(c api.Command) api.Errno {
	n := append(slices.Clone(c.Args), make([]int, 12)...)
	r := func(i int) api.Range { return api.Range{Lo: n[i], Hi: n[i+1]} }
	switch c.Kind {
	case api.CmdLength:
		m.v.Ship.Length = n[0]
		return first(n[0] < 1 || n[0] > 1000000, api.ErrShip)
	case api.CmdTable:
		t, e := tables(c.Texts)
		if e != api.OK {
			return e
		}
		switch s := &m.v.Ship; n[0] {
		case 1:
			s.Drafts = t[0]
		case 2:
			s.Heights = t[0]
		case 3:
			s.Centres = t[0]
		case 4:
			s.Trims = t[0]
		case 5:
			s.Flood = t[0]
		case 6:
			s.Sine = t[0]
		case 7:
			s.Shift = t[0]
		default:
			return api.ErrArg
		}
	case api.CmdCross:
		t, e := tables(c.Texts)
		if e != api.OK {
			return e
		}
		l := m.v.Ship.Cross
		m.v.Ship.Cross = append(slices.Clone(l), api.Cross{Tonnes: n[0], Arms: t[0]})
		return first(len(l) == 12 || n[0] < 0 || n[0] > 1000000 || len(l) > 0 && n[0] <= l[len(l)-1].Tonnes, api.ErrShip)
	case api.CmdLight:
		m.v.Ship.Light = api.Weight{Mass: r(0), Along: r(2), High: r(4)}
		return cond.CheckWeight(m.v.Ship.Light)
	case api.CmdHold, api.CmdTank, api.CmdFill, api.CmdLevel:
		return m.setCompartment(c, n, r)
	case api.CmdCode:
		code, _, e := rule.Parse(c.Texts[0])
		m.v.Code = code
		return e
	case api.CmdGiven:
		f := api.Fact{Name: c.Texts[0], Value: r(0)}
		for i, g := range m.v.Given {
			if g.Name == f.Name {
				m.v.Given[i] = f
				return first(!mayBeGiven(f), api.ErrFact)
			}
		}
		m.v.Given = append(m.v.Given, f)
		return first(!mayBeGiven(f), api.ErrFact, len(m.v.Given) > 8, api.ErrLong)
	case api.CmdDay:
		m.v.Day = n[0]
		return first(n[0] < 0 || n[0] > 100000, api.ErrDay)
	case api.CmdMost:
		m.v.Most = n[0]
		return first(n[0] < 0 || n[0] > 900, api.ErrArg)
	case api.CmdLot:
		m.lots = append(slices.Clone(m.lots), api.Lot{Id: n[0], Owner: n[1], Grade: n[2], Wet: n[3]})
		return parcel.CheckLots(m.lots)
	case api.CmdJob:
		t := api.Task{Job: api.Job{Cost: n[0], Spout: n[1], Minutes: n[2], Dry: n[3] == 1}, Pour: api.Pour{Hold: n[4], Mass: r(5), Density: r(7)}}
		m.tasks = append(slices.Clone(m.tasks), t)
		return first(n[3] < 0 || n[3] > 1, api.ErrWork, len(m.tasks) > 4, api.ErrLong, true, wantTasks(m.v, []api.Task{t}, 0))
	case api.CmdOpen:
		m.berth.Open = append(slices.Clone(m.berth.Open), api.Span{From: n[0], To: n[1]})
		return plan.CheckBerth(m.berth)
	case api.CmdRain:
		m.berth.Rain = append(slices.Clone(m.berth.Rain), api.Span{From: n[0], To: n[1]})
		return plan.CheckBerth(m.berth)
	case api.CmdPassage:
		m.passages = append(slices.Clone(m.passages), api.Passage{Hours: r(0), Burn: r(2)})
		return voyage.Check(m.passages)
	case api.CmdClock:
		m.clocks = append(slices.Clone(m.clocks), api.Clock{Hold: n[0], From: n[1], For: r(2)})
		return voyage.CheckClocks(m.clocks)
	case api.CmdForecast:
		m.forecasts = append(slices.Clone(m.forecasts), api.Forecast{Issued: n[0], From: n[1], To: n[2], Value: r(3)})
		return voyage.CheckForecasts(m.forecasts)
	case api.CmdClear:
		m.tasks = nil
	}
	return api.OK
}

// setCompartment sets holds and tanks, and what they have.
func (m *model) setCompartment(c api.Command, n []int, r func(i int) api.Range) api.Errno {
	ts, e := tables(c.Texts)
	if e != api.OK {
		return e
	}
	held := slices.IndexFunc(m.v.Holds, func(h api.Hold) bool { return h.Id == n[0] })
	tanked := slices.IndexFunc(m.v.Tanks, func(t api.Tank) bool { return t.Id == n[0] })
	switch c.Kind {
	case api.CmdHold:
		h := api.Hold{Id: n[0], Along: r(1), Trimmed: r(3), Untrimmed: r(5), Volume0: r(7), Height0: r(9), Volume: ts[0], Moment: ts[1], Height: ts[2]}
		m.v.Holds, m.v.Fills = append(slices.Clone(m.v.Holds), h), append(m.v.Fills, api.Fill{Hold: n[0]})
		return first(len(m.v.Holds) > 9, api.ErrLong, hold.CheckHold(h) != api.OK, api.ErrHold, held >= 0, api.ErrHold)
	case api.CmdTank:
		t := api.Tank{Id: n[0], Along: r(1), Volume: ts[0], Surface: ts[1], Height: ts[2]}
		m.v.Tanks, m.v.Levels = append(slices.Clone(m.v.Tanks), t), append(m.v.Levels, api.Level{Tank: n[0], Sounding: at(ts[0].Points[0].X), Density: at(1000)})
		return first(len(m.v.Tanks) > 9, api.ErrLong, hold.CheckTank(t) != api.OK, api.ErrTank, tanked >= 0, api.ErrTank)
	case api.CmdFill:
		if held < 0 {
			return api.ErrHold
		}
		m.v.Fills[held] = api.Fill{Hold: n[0], State: n[1], Ullage: r(2), Density: r(4)}
		return hold.CheckFill(m.v.Holds[held], m.v.Fills[held])
	}
	if tanked < 0 {
		return api.ErrTank
	}
	m.v.Levels[tanked] = api.Level{Tank: n[0], Pressed: n[1] == 1, Sounding: r(2), Density: r(4)}
	return first(n[1] != 0 && n[1] != 1, api.ErrLevel, true, hold.CheckLevel(m.v.Tanks[tanked], m.v.Levels[tanked]))
}

// written writes words and numbers with spaces.
func written(l ...any) []string {
	var words []string
	for _, x := range l {
		switch y := x.(type) {
		case int:
			words = append(words, strconv.Itoa(y))
		case string:
			words = append(words, y)
		case api.Range:
			words = append(words, strconv.Itoa(y.Lo), strconv.Itoa(y.Hi))
		case api.Place:
			words = append(words, strconv.Itoa(y.Party), strconv.Itoa(y.Seq))
		}
	}
	return []string{strings.Join(words, " ")}
}

// poursOf are one or two pours of numbers.
func poursOf(n []int) []api.Pour {
	l := []api.Pour{{Hold: n[0], Mass: span(n[1], n[2]), Density: span(n[3], n[4])}}
	if len(n) == 10 {
		l = append(l, poursOf(n[5:])...)
	}
	return l
}

// act does an act.
func (m *model) act(c api.Command) ([]string, api.Errno) {
	n := c.Args
	party := func(p int) bool { return 0 <= p && p <= 3 }
	switch c.Kind {
	case api.CmdPour, api.CmdPair:
		w, many, e := wantBegin(m.v, poursOf(n))
		if e == api.ErrUnsafe {
			i, name, _ := wantWhy(m.v, poursOf(n))
			return written("unsafe", i, name), api.OK
		}
		m.v = w
		return written("stage", many), e
	case api.CmdDeed:
		if len(m.deeds) == 60 {
			return nil, api.ErrLong
		}
		x := api.Deed{Kind: n[0], Lot: n[1], From: n[2], To: n[3], Mass: n[4]}
		s, _, _ := parcel.Play(m.lots, m.deeds)
		_, moved, e := parcel.Do(s, x)
		m.deeds = append(slices.Clone(m.deeds), x)
		return written("moved", parcel.Mass(moved)), e
	case api.CmdNote:
		if !party(n[0]) {
			return nil, api.ErrArg
		}
		x := api.Entry{Kind: n[1], Lot: n[2], Value: span(n[3], n[4]), Time: n[5], Of: api.Place{Party: n[6], Seq: n[7]}}
		node, x, e := book.Note(m.nodes[n[0]], x, uint64(1000003*(n[0]+1)))
		m.nodes[n[0]] = node
		return written("entry", x.At), e
	case api.CmdOffer:
		if !party(n[0]) {
			return nil, api.ErrArg
		}
		node, l, e := book.Offer(m.nodes[n[0]], n[1])
		m.nodes[n[0]] = node
		m.wires = append(m.wires, l...)
		if e == api.OK && len(m.wires) > 60 {
			e = api.ErrLong
		}
		return written("messages", len(m.wires)), e
	case api.CmdRestart:
		if !party(n[0]) {
			return nil, api.ErrArg
		}
		node, e := book.Restart(m.nodes[n[0]], []int{n[1]})
		m.nodes[n[0]] = node
		return written("entries", len(node.Store.Book.Entries)), e
	}
	return m.handle(c)
}

// handle does something with a message that is under way.
func (m *model) handle(c api.Command) ([]string, api.Errno) {
	many := len(m.wires)
	if many == 0 {
		return nil, api.ErrNone
	}
	i := c.Args[0] % many
	if i < 0 {
		i += many
	}
	x := m.wires[i]
	if c.Kind == api.CmdDouble {
		m.wires = append(m.wires, x)
		return written("messages", many+1), first(many == 60, api.ErrLong)
	}
	m.wires = slices.Concat(m.wires[:i], m.wires[i+1:])
	if c.Kind == api.CmdDeliver {
		node, l, e := book.Receive(m.nodes[x.To], x, [4]uint64{1000003, 2000006, 3000009, 4000012})
		if e != api.OK {
			return nil, e
		}
		m.nodes[x.To] = node
		m.wires = append(m.wires, l...)
	}
	return written("messages", len(m.wires)), api.OK
}

// orNone is what is told of nothing.
func orNone(l []string) []string {
	if len(l) == 0 {
		return []string{"none"}
	}
	return l
}

func answer(n int) string { return []string{"no", "yes", "maybe"}[n] }

// ask answers a query.
func (m *model) ask(c api.Command) (l []string, e api.Errno) {
	n := c.Args
	switch c.Kind {
	case api.CmdFacts, api.CmdJudge:
		f, e := wantFacts(m.v)
		if e != api.OK {
			return nil, e
		}
		if c.Kind == api.CmdFacts {
			for _, x := range f {
				l = append(l, written(x.Name, x.Value)...)
			}
			return l, api.OK
		}
		verdicts, e := rule.Judge(m.v.Code, m.v.Day, f)
		for i, x := range verdicts {
			l = append(l, written(m.v.Code.Rules[i].Name, answer(x.Binds), answer(x.Kept))...)
		}
		return orNone(l), e
	case api.CmdMargin, api.CmdProve:
		if e := wantCheck(m.v); e != api.OK {
			return nil, e
		}
		load, _ := hold.Load(m.v.Holds, m.v.Fills, m.v.Tanks, m.v.Levels)
		if c.Kind == api.CmdMargin {
			t, e := cond.Margin(m.v.Ship, load)
			for _, p := range t.Points {
				l = append(l, written(p.X, p.Lo, p.Hi)...)
			}
			return l, e
		}
		x, e := cond.Prove(m.v.Ship, load, m.v.Most, n[0])
		l = written("cert", len(x.Points))
		for _, p := range x.Points {
			l = append(l, written(p.X, p.Lo)...)
		}
		return l, e
	case api.CmdWhy:
		i, name, e := wantWhy(m.v, poursOf(n))
		return written(i, name), e
	case api.CmdPlan, api.CmdBlocked, api.CmdTimes:
		return m.askPlan(c)
	case api.CmdAccounts, api.CmdShares:
		return m.askParcels(c)
	case api.CmdBurnt:
		r, e := voyage.Burnt(m.passages)
		return written(r), e
	case api.CmdEnough:
		a, e := voyage.Enough(span(n[0], n[1]), m.passages, n[2])
		return written(answer(a)), e
	case api.CmdClosed:
		a, e := voyage.Closed(m.clocks, n[0], n[1])
		return written(answer(a)), e
	case api.CmdCalm:
		a, e := voyage.Calm(m.forecasts, n[0], n[1], n[2], n[3])
		return written(answer(a)), e
	}
	return m.askBooks(c)
}

// askPlan answers a query of the tasks.
func (m *model) askPlan(c api.Command) (l []string, e api.Errno) {
	w, e := wantWork(m.v, m.tasks, c.Args[0])
	if e != api.OK {
		return nil, e
	}
	if c.Kind == api.CmdBlocked {
		b, e := plan.Blocked(w)
		return written(b.From, b.To), e
	}
	p, e := plan.Best(w)
	if e != api.OK {
		return nil, e
	}
	if c.Kind == api.CmdTimes {
		spans, e := plan.Times(w, p, m.berth, c.Args[1])
		for _, s := range spans {
			l = append(l, written(s.From, s.To)...)
		}
		return l, e
	}
	cost, e := plan.Cost(w, p)
	l = written("handling", cost)
	for _, i := range p.Legs {
		l = append(l, written("stage", w.Legs[i].Add)...)
	}
	return l, e
}

// askParcels answers a query of the lots.
func (m *model) askParcels(c api.Command) (l []string, e api.Errno) {
	if c.Kind == api.CmdAccounts {
		accounts, e := parcel.Accounts(m.lots, m.deeds)
		for _, x := range accounts {
			l = append(l, written(x.Lot, x.Poured, x.Drawn, x.Lost, x.Left)...)
		}
		return orNone(l), e
	}
	if c.Args[0] < 0 || c.Args[0] > 8 {
		return nil, api.ErrArg
	}
	s, _, _ := parcel.Play(m.lots, m.deeds)
	for _, x := range m.lots {
		r, e := parcel.Share(s, c.Args[0], x.Id)
		if e != api.OK {
			return nil, e
		}
		if r.N > 0 {
			l = append(l, written(x.Id, r.N, r.D)...)
		}
	}
	return l, first(len(m.lots) == 0, api.ErrNone)
}

// askBooks answers a query of the books.
func (m *model) askBooks(c api.Command) (l []string, e api.Errno) {
	if c.Kind == api.CmdBooks {
		for _, x := range m.nodes {
			l = append(l, written("entries", len(x.Store.Book.Entries))...)
		}
		return l, api.OK
	}
	p := c.Args[0]
	if p < 0 || p > 3 {
		return nil, api.ErrArg
	}
	b := m.nodes[p].Store.Book
	switch c.Kind {
	case api.CmdLedger:
		figures, e := book.Ledger(b)
		for _, f := range figures {
			l = append(l, written(f.Kind, f.Lot, f.At, f.Heir, f.Value)...)
		}
		return orNone(l), e
	case api.CmdDisputes:
		disputes, e := book.Disputes(b)
		for _, x := range disputes {
			l = append(l, written(x.Lot, x.A, x.B)...)
		}
		return orNone(l), e
	}
	r, e := book.Agreed(b, c.Args[1])
	return written(r), e
}

// wantAccept is what Accept has to say: it goes through the lines of a bundle by the chapter's words.
func wantAccept(bundle string) (int, api.Errno) {
	if len(bundle) > 200000 {
		return 0, api.ErrLong
	}
	lines := strings.Split(bundle, "\n")
	if lines[len(lines)-1] == "" {
		lines = lines[:len(lines)-1]
	}
	var script []string
	var numbers []int
	for i, line := range lines {
		if !strings.HasPrefix(line, "> ") && !strings.HasPrefix(line, "< ") {
			return i + 1, api.ErrBundle
		}
		if line[0] == '>' {
			script, numbers = append(script, line[2:]), append(numbers, i)
		}
	}
	if len(strings.Join(script, "\n")) > 60000 {
		return 0, api.ErrLong
	}
	for i, line := range script {
		if strings.HasPrefix(line, "#") || strings.ReplaceAll(line, " ", "") == "" {
			return numbers[i] + 1, api.ErrBundle
		}
	}
	if len(script) > 200 {
		return 0, api.ErrLong
	}
	var commands []api.Command
	for i, line := range script {
		c, _, e := desk.Parse(line)
		if e == api.ErrLong {
			return 0, e
		}
		if e != api.OK {
			return numbers[i] + 1, e
		}
		commands = append(commands, c)
	}
	if n := wrongLine(lines, numbers, commands); n > 0 {
		return n, api.ErrTold
	}
	if bundle != "" && bundle[len(bundle)-1] != '\n' {
		return len(lines), api.ErrTold
	}
	return 0, api.OK
}

// wrongLine is the number of the first line that is not as a model answers; 0 if there is none.
func wrongLine(lines []string, numbers []int, commands []api.Command) int {
	m := newModel()
	next := 0
	for i, c := range commands {
		if numbers[i] != next {
			return next + 1
		}
		end := len(lines)
		if i+1 < len(numbers) {
			end = numbers[i+1]
		}
		told, due := lines[next+1:end], m.do(c)
		if c.Kind == api.CmdProve && len(due) > 1 {
			if !m.shows(c.Args[0], told) {
				return next + 2
			}
			next = end
			continue
		}
		next++
		for _, line := range due {
			if next == end || lines[next] != "< "+line {
				if c.Kind == api.CmdProve {
					return numbers[i] + 2
				}
				return next + 1
			}
			next++
		}
		if c.Kind == api.CmdProve && next < end {
			return numbers[i] + 2
		}
	}
	if next < len(lines) {
		return next + 1
	}
	return 0
}

// shows reports whether the lines of an answer of prove have a certificate that shows an area.
func (m *model) shows(area int, told []string) bool {
	var c api.Cert
	for i, line := range told {
		w := strings.Fields(line[2:])
		if len(w) != 2 || strings.Trim(line[2:], " -0123456789cert") != "" {
			return false
		}
		if i == 0 {
			if w[0] != "cert" || w[1] != strconv.Itoa(len(told)-1) {
				return false
			}
			continue
		}
		x, err := strconv.Atoi(w[0])
		low, bad := strconv.Atoi(w[1])
		if err != nil || bad != nil || strconv.Itoa(x) != w[0] || strconv.Itoa(low) != w[1] || x > api.MaxWide || low > api.MaxWide {
			return false
		}
		c.Points = append(c.Points, api.Point{X: x, Lo: low, Hi: low})
	}
	load, _ := hold.Load(m.v.Holds, m.v.Fills, m.v.Tanks, m.v.Levels)
	return len(told) > 0 && cond.Check(m.v.Ship, load, m.v.Most, area, c) == api.OK
}
