package desk_test

import (
	"reflect"
	"slices"
	"strconv"
	"strings"
	"testing"

	"ullage/api"
	"ullage/desk"
)

// at has one number.
func at(n int) api.Range { return api.Range{Lo: n, Hi: n} }

func span(lo, hi int) api.Range { return api.Range{Lo: lo, Hi: hi} }

// plain returns a table without width: places, and values.
func plain(l ...int) api.Table {
	var t api.Table
	for i := 0; i < len(l); i += 2 {
		t.Points = append(t.Points, api.Point{X: l[i], Lo: l[i+1], Hi: l[i+1]})
	}
	return t
}

// points writes a table as a text.
func points(t api.Table) string {
	s := ""
	for _, p := range t.Points {
		s += strconv.Itoa(p.X) + " " + strconv.Itoa(p.Lo) + " " + strconv.Itoa(p.Hi) + "\n"
	}
	return s
}

// exampleShip has a draft of 1000 millimetres a tonne, and floods at 50 degrees.
func exampleShip() api.Ship {
	arms := plain(0, 0, 800, 8000)
	return api.Ship{
		Length: 100000, Drafts: plain(0, 0, 100, 100000), Heights: plain(0, 8000, 100, 8000), Centres: plain(0, 0, 100, 0),
		Trims: plain(0, 100, 100, 100), Flood: plain(0, 500, 100, 500),
		Cross: []api.Cross{{Tonnes: 0, Arms: arms}, {Tonnes: 100, Arms: plain(0, 0, 800, 8000)}},
		Sine:  plain(0, 0, 800, 900000), Shift: plain(0, 1000, 800, 600),
		Light: api.Weight{Mass: at(20000), Along: at(0), High: at(3000)},
	}
}

// exampleHold has 10 litres a millimetre, and 30000 litres.
func exampleHold(id int) api.Hold {
	return api.Hold{
		Id: id, Volume: plain(0, 30000, 3000, 0), Moment: plain(0, 1000, 3000, 1000), Height: plain(0, 3000, 3000, 1000),
		Trimmed: at(9), Untrimmed: at(19), Volume0: at(30000), Height0: at(3000),
	}
}

// exampleTank has 2 litres a millimetre, and 2000 litres.
func exampleTank(id int) api.Tank {
	return api.Tank{Id: id, Volume: plain(0, 0, 1000, 2000), Surface: plain(0, 0, 1000, 1000), Height: plain(0, 0, 1000, 900)}
}

// always, most and less are conditions.
func always() api.Cond { return api.Cond{Terms: []api.Term{{Kind: api.TmTrue}}} }

func most(name string, n int) api.Cond {
	return api.Cond{Terms: []api.Term{{Kind: api.TmMost, Name: name, Num: n}}}
}

// exampleCode says that on the days 0 to 9 the draft must be at most 30000, and that from the day 20 on there must be less rain than 20.
func exampleCode() api.Code {
	return api.Code{
		Name:  "port",
		Facts: []api.Fact{{Name: "draft", Value: span(0, 100000)}, {Name: "rain", Value: span(0, 50)}},
		Rules: []api.Rule{
			{Name: "deep", To: 9, When: always(), Must: most("draft", 30000)},
			{Name: "wet", From: 20, To: 99, When: always(), Must: most("rain", 19)},
		},
	}
}

// exampleVoyage has two empty holds and no tanks.
func exampleVoyage() api.Voyage {
	return api.Voyage{
		Ship: exampleShip(), Holds: []api.Hold{exampleHold(1), exampleHold(2)}, Fills: []api.Fill{{Hold: 1}, {Hold: 2}},
		Code: exampleCode(), Day: 5, Most: 400,
	}
}

// partly is a fill at ullages, of grain of 1000 grams a litre.
func partly(id, lo, hi int) api.Fill {
	return api.Fill{Hold: id, State: api.Partly, Ullage: span(lo, hi), Density: at(1000)}
}

// pour is one of grain of 1000 grams a litre.
func pour(id, mass int) api.Pour { return api.Pour{Hold: id, Mass: at(mass), Density: at(1000)} }

// task is a job of the cost 5 that pours.
func task(spout, id, mass int) api.Task {
	return api.Task{Job: api.Job{Cost: 5, Spout: spout, Minutes: 9}, Pour: pour(id, mass)}
}

// voyageScript sets up the example's voyage.
func voyageScript() []string {
	s, l := exampleShip(), []string{"length 100000"}
	for i, t := range []api.Table{s.Drafts, s.Heights, s.Centres, s.Trims, s.Flood, s.Sine, s.Shift} {
		l = append(l, "table "+strconv.Itoa(i+1)+" "+desk.Quote(points(t)))
	}
	for _, c := range s.Cross {
		l = append(l, "cross "+strconv.Itoa(c.Tonnes)+" "+desk.Quote(points(c.Arms)))
	}
	l = append(l, "light 20000 20000 0 0 3000 3000", holdLine(1), holdLine(2))
	return append(l, `code "code port\nfact draft 0 100000\nfact rain 0 50\nrule deep 0 9 when true must draft <= 30000\nrule wet 20 99 when true must rain <= 19"`, "day 5", "most 400")
}

// holdLine adds the example's hold with this id.
func holdLine(id int) string {
	h := exampleHold(id)
	return "hold " + strconv.Itoa(id) + " 0 0 9 9 19 19 30000 30000 3000 3000 " + desk.Quote(points(h.Volume)) + " " + desk.Quote(points(h.Moment)) + " " + desk.Quote(points(h.Height))
}

// tankLine adds the example's tank with this id.
func tankLine(id int) string {
	t := exampleTank(id)
	return "tank " + strconv.Itoa(id) + " 0 0 " + desk.Quote(points(t.Volume)) + " " + desk.Quote(points(t.Surface)) + " " + desk.Quote(points(t.Height))
}

// command is that of a line.
func command(t *testing.T, line string) api.Command {
	t.Helper()
	c, n, e := desk.Parse(line)
	if e != api.OK {
		t.Fatalf("%s: %d at %d", line, e, n)
	}
	return c
}

// deskBehind is a desk behind lines, none of which is refused.
func deskBehind(t *testing.T, lines ...string) *desk.Desk {
	t.Helper()
	d := desk.New()
	for _, line := range lines {
		if l := d.Do(command(t, line)); len(l) == 0 || strings.HasPrefix(l[0], "error") {
			t.Fatalf("%s: %q", line, l)
		}
	}
	return d
}

// ready is a desk with the example's voyage, behind more lines.
func ready(t *testing.T, more ...string) *desk.Desk {
	t.Helper()
	return deskBehind(t, append(voyageScript(), more...)...)
}

// expect does a line, and expects an answer.
func expect(t *testing.T, d *desk.Desk, line string, want ...string) {
	t.Helper()
	if l := d.Do(command(t, line)); !slices.Equal(l, want) {
		t.Errorf("%.200s: %q, want %q", line, l, want)
	}
}

// expectError does a line, and expects that it is refused, and that nothing is changed.
func expectError(t *testing.T, d *desk.Desk, line string, e api.Errno) {
	t.Helper()
	was := stateOf(d)
	expect(t, d, line, "error "+strconv.Itoa(int(e)))
	if !reflect.DeepEqual(stateOf(d), was) {
		t.Errorf("%.200s has changed something", line)
	}
}

// sameVoyage reports whether two voyages are equal, lists that are nil and empty ones, too (R3).
func sameVoyage(a, b api.Voyage) bool { return sameValue(reflect.ValueOf(a), reflect.ValueOf(b)) }

// same reports whether two values of one type are equal, but for lists that are nil or empty.
func same[T any](a, b T) bool {
	return sameValue(reflect.ValueOf(&a).Elem(), reflect.ValueOf(&b).Elem())
}

func sameValue(a, b reflect.Value) bool {
	switch a.Kind() {
	case reflect.Slice, reflect.Array:
		if a.Len() != b.Len() {
			return false
		}
		for i := range a.Len() {
			if !sameValue(a.Index(i), b.Index(i)) {
				return false
			}
		}
		return true
	case reflect.Struct:
		for i := range a.NumField() {
			if !sameValue(a.Field(i), b.Field(i)) {
				return false
			}
		}
		return true
	}
	return a.Interface() == b.Interface()
}

// state is all that a desk shows: its voyage, its books, and the answers of queries that change nothing.
type state struct {
	voyage api.Voyage
	books  [api.MaxParties]api.Book
	told   [][]string
}

// stateOf asks a desk for all that it has. (A message is doubled and lost again to see those that are under way: the answer of double tells how many there were.)
func stateOf(d *desk.Desk) state {
	s := state{voyage: d.Voyage()}
	for p := range s.books {
		s.books[p] = d.Book(p)
	}
	ask := func(kind int, n ...int) { s.told = append(s.told, d.Do(api.Command{Kind: kind, Args: n})) }
	for _, kind := range []int{api.CmdFacts, api.CmdJudge, api.CmdMargin, api.CmdAccounts, api.CmdBurnt, api.CmdBooks} {
		ask(kind)
	}
	ask(api.CmdPlan, 3)
	ask(api.CmdBlocked, 3)
	ask(api.CmdTimes, 3, 0)
	ask(api.CmdEnough, 100, 200, 50)
	for i := range api.MaxHolds {
		ask(api.CmdShares, i)
		ask(api.CmdClosed, i, 100)
		ask(api.CmdClosed, i, 120)
	}
	for hour := range 12 {
		ask(api.CmdCalm, hour, hour, hour, 5)
	}
	for p := range api.MaxParties {
		ask(api.CmdLedger, p)
		ask(api.CmdDisputes, p)
	}
	return s
}
