package desk_test

import (
	"math/rand"
	"slices"
	"strconv"
	"strings"
	"testing"

	"ullage/api"
	"ullage/book"
	"ullage/cond"
	"ullage/desk"
	"ullage/hold"
	"ullage/plan"
)

// yard makes random voyages.
type yard struct{ *rand.Rand }

// wide is a table in which each point is up to w wider below and above, with values from least to most.
func (y yard) wide(t api.Table, w, least, most int) api.Table {
	var u api.Table
	for _, p := range t.Points {
		u.Points = append(u.Points, api.Point{X: p.X, Lo: max(least, p.Lo-y.Intn(w+1)), Hi: min(most, p.Hi+y.Intn(w+1))})
	}
	return u
}

// around is a range about n, up to w wider below and above.
func (y yard) around(n, w int) api.Range { return span(n-y.Intn(w+1), n+y.Intn(w+1)) }

func (y yard) ship() api.Ship {
	s := exampleShip()
	s.Drafts, s.Heights, s.Centres = y.wide(s.Drafts, 300, 0, api.MaxY), y.wide(s.Heights, 100, 0, api.MaxPlace), y.wide(s.Centres, 200, -api.MaxPlace, api.MaxPlace)
	s.Trims, s.Flood, s.Sine, s.Shift = y.wide(s.Trims, 9, 1, 1000), y.wide(s.Flood, 20, 0, 900), y.wide(s.Sine, 2000, 0, 1000000), y.wide(s.Shift, 20, 0, 10000)
	for i, c := range s.Cross {
		s.Cross[i].Arms = y.wide(c.Arms, 50, -api.MaxPlace, api.MaxPlace)
	}
	s.Light = api.Weight{Mass: y.around(20000, 500), Along: y.around(0, 300), High: y.around(3000, 100)}
	return s
}

func (y yard) hold(id int) api.Hold {
	return api.Hold{
		Id: id, Along: y.around(y.Intn(4000)-2000, 100),
		Volume: y.wide(plain(0, 30000, 1500, 16000, 3000, 0), 300, 0, api.MaxY), Moment: y.wide(plain(0, 0, 1500, 900000, 3000, 100000), 50000, 0, api.MaxY),
		Height: y.wide(plain(0, 3000, 3000, 1000), 200, 0, api.MaxY), Trimmed: y.around(50000, 3000), Untrimmed: y.around(90000, 3000), Volume0: y.around(30000, 200), Height0: y.around(3000, 50),
	}
}

func (y yard) fill(id int) api.Fill {
	switch y.Intn(8) {
	case 0:
		return api.Fill{Hold: id, State: api.Partly, Ullage: y.around(2700, 100), Density: y.around(800, 40)}
	case 1:
		return api.Fill{Hold: id, State: api.Strapped, Ullage: y.around(2600, 30), Density: y.around(800, 40)}
	}
	return api.Fill{Hold: id}
}

// code has rules of some facts of the ship and of one that is given; each one is mostly kept now.
func (y yard) code(v api.Voyage) api.Code {
	load, _ := hold.Load(v.Holds, v.Fills, v.Tanks, v.Levels)
	now, _ := cond.Facts(v.Ship, load, v.Most)
	now = append(now, api.Fact{Name: "rain", Value: span(0, 30)})
	c := api.Code{Name: "random"}
	for i := range 1 + y.Intn(3) {
		f := now[y.Intn(len(now))]
		if slices.ContainsFunc(c.Facts, func(g api.Fact) bool { return g.Name == f.Name }) {
			continue
		}
		c.Facts = append(c.Facts, api.Fact{Name: f.Name, Value: span(-api.MaxValue, api.MaxValue)})
		room := 1 + max(f.Value.Hi, -f.Value.Lo)*3/4
		must := api.Cond{Terms: []api.Term{{Kind: api.TmMost, Name: f.Name, Num: f.Value.Hi + y.Intn(room)}}}
		if y.Intn(2) == 0 && f.Name != "draft" && f.Name != "tonnes" {
			must = api.Cond{Terms: []api.Term{{Kind: api.TmLess, Name: f.Name, Num: f.Value.Lo - y.Intn(room)}, {Kind: api.TmNot}}}
		}
		when := always()
		if y.Intn(4) == 0 {
			when = most(c.Facts[0].Name, f.Value.Hi)
		}
		c.Rules = append(c.Rules, api.Rule{Name: "r" + strconv.Itoa(i), To: 99, When: when, Must: must})
	}
	return c
}

// voyage has so many holds.
func (y yard) voyage(holds int) api.Voyage {
	v := api.Voyage{Ship: y.ship(), Day: y.Intn(110), Most: 300 + y.Intn(200), Given: []api.Fact{{Name: "rain", Value: span(y.Intn(10), 10+y.Intn(20))}}}
	for _, i := range y.Perm(9)[:holds] {
		v.Holds, v.Fills = append(v.Holds, y.hold(i+1)), append(v.Fills, y.fill(i+1))
	}
	if y.Intn(2) == 0 {
		v.Tanks, v.Levels = []api.Tank{exampleTank(5)}, []api.Level{{Tank: 5, Sounding: y.around(500, 50), Density: y.around(1010, 10)}}
	}
	v.Code = y.code(v)
	return v
}

// pour is one into the hold with this index.
func (y yard) pour(v api.Voyage, i int) api.Pour {
	return api.Pour{Hold: v.Holds[i].Id, Mass: y.around(500+y.Intn(1<<(8+y.Intn(7))), 100), Density: y.around(800, 30)}
}

// stage has one pour or two.
func (y yard) stage(v api.Voyage) []api.Pour {
	l := []api.Pour{}
	for _, i := range y.Perm(len(v.Holds))[:1+y.Intn(min(2, len(v.Holds)))] {
		l = append(l, y.pour(v, i))
	}
	return l
}

// part is a range of numbers of another one.
func (y yard) part(r api.Range) api.Range {
	lo := r.Lo + y.Intn(r.Hi-r.Lo+1)
	return span(lo, lo+y.Intn(r.Hi-lo+1)*y.Intn(2))
}

// curve is a table within another one, which rises or falls where that one does.
func (y yard) curve(t api.Table) api.Table {
	n := y.Intn(5)
	m := n + y.Intn(5-n)*y.Intn(2)
	var u api.Table
	for _, p := range t.Points {
		u.Points = append(u.Points, api.Point{X: p.X, Lo: p.Lo + (p.Hi-p.Lo)*n/4, Hi: p.Lo + (p.Hi-p.Lo)*m/4})
	}
	return u
}

// within is a voyage whose ship, compartments, and facts lie within those of another one.
func (y yard) within(v api.Voyage) api.Voyage {
	s := &v.Ship
	for _, t := range []*api.Table{&s.Drafts, &s.Heights, &s.Centres, &s.Trims, &s.Flood, &s.Sine, &s.Shift} {
		*t = y.curve(*t)
	}
	s.Cross = slices.Clone(s.Cross)
	for i, c := range s.Cross {
		s.Cross[i].Arms = y.curve(c.Arms)
	}
	s.Light = api.Weight{Mass: y.part(s.Light.Mass), Along: y.part(s.Light.Along), High: y.part(s.Light.High)}
	v.Holds, v.Fills, v.Levels, v.Given = slices.Clone(v.Holds), slices.Clone(v.Fills), slices.Clone(v.Levels), slices.Clone(v.Given)
	for i, h := range v.Holds {
		v.Holds[i] = api.Hold{
			Id: h.Id, Along: y.part(h.Along), Volume: y.curve(h.Volume), Moment: y.curve(h.Moment), Height: y.curve(h.Height),
			Trimmed: y.part(h.Trimmed), Untrimmed: y.part(h.Untrimmed), Volume0: y.part(h.Volume0), Height0: y.part(h.Height0),
		}
		f := &v.Fills[i]
		f.Ullage, f.Density = y.part(f.Ullage), y.part(f.Density)
	}
	for i := range v.Levels {
		l := &v.Levels[i]
		l.Sounding, l.Density = y.part(l.Sounding), y.part(l.Density)
	}
	for i := range v.Given {
		v.Given[i].Value = y.part(v.Given[i].Value)
	}
	return v
}

// TestEachInstant is P9.3.
func TestEachInstant(t *testing.T) {
	y := yard{rand.New(rand.NewSource(121))}
	begun, unsafe, pairs := 0, 0, 0
	for range 800 {
		v := y.voyage(1 + y.Intn(3))
		l := y.stage(v)
		switch _, _, e := desk.Begin(v, l); e {
		case api.ErrUnsafe:
			unsafe++
			continue
		default:
			continue
		case api.OK:
			begun++
		}
		if len(l) == 2 {
			pairs++
		}
		for range 12 {
			w := v
			for _, p := range l {
				// No more than the mass is poured, and of each density that it may have.
				part := api.Pour{Hold: p.Hold, Mass: y.part(span(0, p.Mass.Hi)), Density: y.part(p.Density)}
				if y.Intn(4) == 0 {
					part.Mass = at([]int{0, 1, p.Mass.Hi, p.Mass.Lo}[y.Intn(4)])
				}
				var e api.Errno
				if w, e = behind(w, part); e != api.OK {
					t.Fatal(part, e)
				}
			}
			if n, e := desk.Judge(w); n != api.Yes || e != api.OK {
				t.Fatalf("%v of %v: %d %d", w.Fills, l, n, e)
			}
			x := y.within(w)
			if n, e := desk.Judge(x); n != api.Yes || e != api.OK {
				t.Fatalf("%v within: %d %d", x, n, e)
			}
		}
	}
	if min(begun, unsafe, pairs) < 60 {
		t.Error("too few cases:", begun, unsafe, pairs)
	}
}

// TestStagesByOracle holds what is told of random stages against the definitions.
func TestStagesByOracle(t *testing.T) {
	y := yard{rand.New(rand.NewSource(122))}
	seen := map[api.Errno]int{}
	for range 700 {
		v := y.voyage(1 + y.Intn(3))
		if y.Intn(6) == 0 {
			v.Ship.Drafts = plain(0, 0, 22, 22000)
		}
		l := y.stage(v)
		all, w, e := wantStage(v, l)
		if got, f := desk.Instants(v, l); !same(got, all) || f != e {
			t.Fatal(l, f, e)
		}
		if got, f := desk.Behind(v, l); !sameVoyage(got, w) || f != e {
			t.Fatal(l, f, e)
		}
		x, n, e := wantBegin(v, l)
		seen[e]++
		if got, m, f := desk.Begin(v, l); !sameVoyage(got, x) || m != n || f != e {
			t.Fatal(l, m, f, n, e)
		}
		n, name, e := wantWhy(v, l)
		if m, s, f := desk.Why(v, l); m != n || s != name || f != e {
			t.Fatal(l, m, s, f, n, name, e)
		}
		f, e := wantFacts(v)
		if got, g := desk.Facts(v); !slices.Equal(got, f) || g != e {
			t.Fatal(got, g, f, e)
		}
	}
	if min(seen[api.OK], seen[api.ErrUnsafe], seen[api.ErrNone], seen[api.ErrFill]) < 20 {
		t.Error("too few cases:", seen)
	}
}

// tasks are so many, each into a hold of its own if apart.
func (y yard) tasks(v api.Voyage, many int, apart bool) []api.Task {
	var l []api.Task
	for _, i := range y.Perm(len(v.Holds))[:many] {
		if !apart {
			i = y.Intn(len(v.Holds))
		}
		l = append(l, api.Task{Job: api.Job{Cost: y.Intn(30), Spout: y.Intn(3), Minutes: 1 + y.Intn(90)}, Pour: y.pour(v, i)})
	}
	return l
}

func TestWorkByOracle(t *testing.T) {
	y := yard{rand.New(rand.NewSource(123))}
	legs := 0
	for range 60 {
		v := y.voyage(4)
		l := y.tasks(v, 1+y.Intn(4), y.Intn(2) == 0)
		want, e := wantWork(v, l, 5)
		if w, f := desk.Work(v, l, 5); !same(w, want) || f != e {
			t.Fatal(w, f, want, e)
		}
		legs += len(want.Legs)
	}
	if legs < 300 {
		t.Error("too few cases:", legs)
	}
}

// crew does tasks by stages that are begun, and remembers what it has tried.
type crew struct {
	v     api.Voyage
	tasks []api.Task
	done  map[api.Leg]bool
}

// mayDo reports whether a stage is begun behind a mask of tasks, each into a hold of its own.
func (c crew) mayDo(from, add int) bool {
	leg := api.Leg{From: from, Add: add}
	if ok, known := c.done[leg]; known {
		return ok
	}
	v, ok := ofMask(c.v, c.tasks, from)
	if ok {
		_, _, e := desk.Begin(v, c.poursOf(add))
		ok = e == api.OK
	}
	c.done[leg] = ok
	return ok
}

// poursOf are those of a mask.
func (c crew) poursOf(mask int) []api.Pour {
	var l []api.Pour
	for i, x := range c.tasks {
		if mask>>i&1 == 1 {
			l = append(l, x.Pour)
		}
	}
	return l
}

// spoutsOf are those of a mask; false if two are alike.
func (c crew) spoutsOf(mask int) (int, bool) {
	spouts := 0
	for i, x := range c.tasks {
		if mask>>i&1 == 1 {
			if spouts>>x.Job.Spout&1 == 1 {
				return 0, false
			}
			spouts |= 1 << x.Job.Spout
		}
	}
	return spouts, true
}

// least is the least handling with which all tasks are done from a mask on; -1 if there is no order.
func (c crew) least(from, spouts, change int) int {
	all := 1<<len(c.tasks) - 1
	if from == all {
		return 0
	}
	best := -1
	for i := range c.tasks {
		for j := range i + 1 {
			add := 1<<i | 1<<j
			next, ok := c.spoutsOf(add)
			if from&add != 0 || !ok || !c.mayDo(from, add) {
				continue
			}
			rest := c.least(from|add, next, change)
			if rest < 0 {
				continue
			}
			for k, x := range c.tasks {
				if add>>k&1 == 1 {
					rest += x.Job.Cost
				}
			}
			for s := range 4 {
				if next>>s&1 == 1 && spouts>>s&1 == 0 {
					rest += change
				}
			}
			if best < 0 || rest < best {
				best = rest
			}
		}
	}
	return best
}

// TestOrders is P9.4.
func TestOrders(t *testing.T) {
	y := yard{rand.New(rand.NewSource(124))}
	planned, blocked := 0, 0
	for range 120 {
		v := y.voyage(4)
		l := y.tasks(v, 1+y.Intn(4), true)
		change := y.Intn(20)
		w, e := desk.Work(v, l, change)
		if e != api.OK {
			t.Fatal(e)
		}
		c := crew{v, l, map[api.Leg]bool{}}
		for _, leg := range w.Legs {
			if !c.mayDo(leg.From, leg.Add) {
				t.Fatal(leg, "is refused")
			}
		}
		least := c.least(0, 0, change)
		p, e := plan.Best(w)
		if e == api.ErrNone {
			blocked++
			if least >= 0 {
				t.Fatal("there is an order of", l)
			}
			continue
		}
		planned++
		if cost, _ := plan.Cost(w, p); cost != least {
			t.Fatal(cost, least)
		}
		// The plan, begun stage by stage.
		x := v
		for _, i := range p.Legs {
			if x, _, e = desk.Begin(x, c.poursOf(w.Legs[i].Add)); e != api.OK {
				t.Fatal(p, i, e)
			}
		}
		if end, _ := ofMask(v, l, 1<<len(l)-1); !sameVoyage(x, end) {
			t.Fatal(x.Fills, end.Fills)
		}
	}
	if min(planned, blocked) < 20 {
		t.Error("too few cases:", planned, blocked)
	}
}

// TestPlansOfDesks is P9.4 at a desk: what plan tells is begun by pour and pair.
func TestPlansOfDesks(t *testing.T) {
	w := writer{rand.New(rand.NewSource(125))}
	planned := 0
	for range 60 {
		d := ready(t, holdLine(3), holdLine(4))
		var pours []string
		for _, i := range w.Perm(4)[:1+w.Intn(4)] {
			mass := w.one(500, 1000, 2000, 3000, 4000)
			pours = append(pours, " "+strconv.Itoa(i+1)+mass+mass+" 1000 1000")
			expect(t, d, "job"+w.to(0, 20)+w.to(0, 3)+" 30 0"+pours[len(pours)-1], "ok")
		}
		told := d.Do(command(t, "plan"+w.to(0, 9)))
		if told[0] == "error 3" {
			continue
		}
		planned++
		for _, stage := range told[1:] {
			mask, _ := strconv.Atoi(strings.TrimPrefix(stage, "stage "))
			line, many := "pour", 0
			for i, p := range pours {
				if mask>>i&1 == 1 {
					line += p
					many++
				}
			}
			if many == 2 {
				line = "pair" + strings.TrimPrefix(line, "pour")
			}
			if l := d.Do(command(t, line)); !strings.HasPrefix(l[0], "stage") {
				t.Fatal(line, l)
			}
		}
	}
	if planned < 20 {
		t.Error("too few cases:", planned)
	}
}

// sumOf adds up the numbers of the lines that begin with a word.
func sumOf(l []string, column int) int {
	sum := 0
	for _, line := range l {
		n, _ := strconv.Atoi(strings.Fields(line)[column])
		sum += n
	}
	return sum
}

// TestWholeVoyages is P9.5: accounts are even, and have each deed's mass; books tell what follows from their entries.
func TestWholeVoyages(t *testing.T) {
	w := writer{rand.New(rand.NewSource(126))}
	moved := 0
	for range 100 {
		d := deskBehind(t, "lot 3 1 1 0", "lot 5 2 1 0", "lot 9 1 2 5")
		poured, drawn, lost := 0, 0, 0
		for range 150 {
			line := w.act()
			l := d.Do(command(t, line))
			if mass, ok := strings.CutPrefix(l[0], "moved "); ok {
				n, _ := strconv.Atoi(mass)
				switch line[5] {
				case '1', '2':
					poured += n
				case '3':
					drawn += n
				case '5':
					lost += n
				}
				moved += n
			}
		}
		accounts := d.Do(command(t, "accounts"))
		if sumOf(accounts, 1) != poured || sumOf(accounts, 2) != drawn || sumOf(accounts, 3) != lost || sumOf(accounts, 4) != poured-drawn-lost {
			t.Fatal(accounts, poured, drawn, lost)
		}
		for p := range 4 {
			expectTold(t, d, p)
		}
		// When all have what the others offer, all tell the same.
		for range 4 {
			for from := range 4 {
				for to := range 4 {
					d.Do(api.Command{Kind: api.CmdOffer, Args: []int{from, to}})
					for d.Do(command(t, "deliver 0"))[0] != "error 3" {
					}
				}
			}
		}
		for p := range 4 {
			expectTold(t, d, p)
			if !same(d.Book(p), d.Book(0)) {
				t.Fatal(d.Book(p), d.Book(0))
			}
			for _, kind := range []int{api.CmdLedger, api.CmdDisputes} {
				a, b := d.Do(api.Command{Kind: kind, Args: []int{p}}), d.Do(api.Command{Kind: kind, Args: []int{0}})
				if !slices.Equal(a, b) {
					t.Fatal(a, b)
				}
			}
		}
	}
	if moved < 3000 {
		t.Error("too few cases:", moved)
	}
}

// expectTold expects that a party's ledger, disputes, and what is agreed, are those of its book.
func expectTold(t *testing.T, d *desk.Desk, p int) {
	t.Helper()
	b := d.Book(p)
	m := newModel()
	m.nodes[p].Store.Book = b
	for _, c := range []api.Command{
		{Kind: api.CmdLedger, Args: []int{p}}, {Kind: api.CmdDisputes, Args: []int{p}},
		{Kind: api.CmdAgreed, Args: []int{p, 7}}, {Kind: api.CmdAgreed, Args: []int{p, 8}}, {Kind: api.CmdAgreed, Args: []int{p, 9}},
	} {
		if got, want := d.Do(c), m.do(c); !slices.Equal(got, want) {
			t.Fatal(got, want)
		}
	}
	for _, x := range b.Entries {
		if book.Verify(x, uint64(1000003*(x.At.Party+1))) != api.OK {
			t.Fatal(x)
		}
	}
}

// TestRefusedIsNothing is P9.5: a script without its lines that are refused tells the same of all others. (A delivery that is refused is the loss of the message.)
func TestRefusedIsNothing(t *testing.T) {
	w := writer{rand.New(rand.NewSource(127))}
	left, gone := 0, 0
	for range 60 {
		d, other := desk.New(), desk.New()
		lines := w.beginning()
		if w.Intn(3) == 0 {
			lines = append(lines, slices.Repeat([]string{"note 0 1 7 100 120 5 0 0"}, 60)...)
			lines = append(lines, "note 1 1 7 100 120 5 0 0", "offer 1 0", "double 0", "double 0", "double 0", "double 0")
		}
		for range 150 {
			lines = append(lines, w.line())
		}
		for _, line := range lines {
			c := command(t, line)
			l := d.Do(c)
			if !strings.HasPrefix(l[0], "error") && !strings.HasPrefix(l[0], "unsafe") {
				if want := other.Do(c); !slices.Equal(l, want) {
					t.Fatalf("%s: %q, and without what was refused %q", line, l, want)
				}
				continue
			}
			left++
			if c.Kind == api.CmdDeliver && l[0] != "error 3" {
				gone++
				other.Do(api.Command{Kind: api.CmdLose, Args: c.Args})
			}
		}
		if !same(d.Voyage(), other.Voyage()) {
			t.Fatal("another voyage")
		}
	}
	if left < 2000 || gone < 20 {
		t.Error("too few cases:", left, gone)
	}
}

// TestAlone is P9.6.
func TestAlone(t *testing.T) {
	w := writer{rand.New(rand.NewSource(128))}
	for range 40 {
		lines := w.beginning()
		for range 40 {
			lines = append(lines, w.line())
		}
		script := strings.Join(lines, "\n# none\n")
		b, n, e := desk.Bundle(script)
		told, _, _ := desk.Run(script)
		text, said, _, f := desk.Open(b)
		if n != 0 || e != api.OK || f != api.OK || text != ended(lines...) || said != told {
			t.Fatal(n, e, f)
		}
		if again, _, _ := desk.Bundle(text); again != b {
			t.Fatal("another bundle of the same script")
		}
		expectAccept(t, b, 0, api.OK)
		all := strings.SplitAfter(b, "\n")
		proof := false
		for i, line := range all {
			if strings.HasPrefix(line, "> ") {
				proof = strings.HasPrefix(line, "> prove")
			}
			if proof || !strings.HasPrefix(line, "< ") || w.Intn(6) > 0 {
				continue
			}
			for _, other := range []string{"", line + line, line[:len(line)-1] + " \n", "< " + line, "< ok 1\n", "< \n"} {
				bundle := strings.Join(all[:i], "") + other + strings.Join(all[i+1:], "")
				if n, e := desk.Accept(bundle); n < i+1 || n > len(all) || e != api.ErrTold {
					t.Fatalf("line %d %q as %q: %d %d", i+1, line, other, n, e)
				}
			}
		}
	}
}
