package desk_test

import (
	"math"
	"math/rand"
	"reflect"
	"slices"
	"strings"
	"testing"

	"ullage/api"
	"ullage/desk"
)

// request is what the functions are asked. (Its fields have great letters so that change can set them.)
type request struct {
	V       api.Voyage
	Pours   []api.Pour
	Tasks   []api.Task
	Change  int
	Command api.Command
	Line    string
	Text    string
	Script  string
	Bundle  string
}

func exampleRequest() request {
	v := exampleVoyage()
	v.Tanks, v.Levels = []api.Tank{exampleTank(3)}, []api.Level{{Tank: 3, Sounding: span(10, 20), Density: at(1000)}}
	v.Given = []api.Fact{{Name: "rain", Value: span(3, 9)}}
	v.Code.Rules = append(v.Code.Rules, api.Rule{Name: "other", When: always(), Must: most("rain", 40), Unless: []string{"deep", "wet"}})
	return request{
		V: v, Pours: []api.Pour{pour(1, 3000), pour(2, 2000)}, Tasks: []api.Task{task(0, 1, 3000), task(1, 2, 1000)}, Change: 7,
		Command: api.Command{Kind: api.CmdGiven, Args: []int{3, 4}, Texts: []string{"rain"}},
		Line:    `given -5 7 "ra\nin"`, Text: "a\"b\\\n", Script: "day 5\nprove 0\nday 6\n", Bundle: "> day 5\n< ok\n> burnt\n< 0 0\n",
	}
}

// call asks one function; its results are all but the error and the number that tells where it is.
type call struct {
	what string
	do   func(q request) ([]any, api.Errno)
}

func calls() []call {
	return []call{
		{"Words", func(q request) ([]any, api.Errno) {
			l, _, e := desk.Words(q.Line)
			return []any{l}, e
		}},
		{"Quote", func(q request) ([]any, api.Errno) { return []any{desk.Quote(q.Text)}, api.OK }},
		{"Parse", func(q request) ([]any, api.Errno) {
			c, _, e := desk.Parse(q.Line)
			return []any{c}, e
		}},
		{"Print", func(q request) ([]any, api.Errno) {
			s, e := desk.Print(q.Command)
			return []any{s}, e
		}},
		{"CheckVoyage", func(q request) ([]any, api.Errno) { return nil, desk.CheckVoyage(q.V) }},
		{"Facts", func(q request) ([]any, api.Errno) {
			f, e := desk.Facts(q.V)
			return []any{f}, e
		}},
		{"Judge", func(q request) ([]any, api.Errno) {
			n, e := desk.Judge(q.V)
			return []any{n}, e
		}},
		{"Instants", func(q request) ([]any, api.Errno) {
			l, e := desk.Instants(q.V, q.Pours)
			return []any{l}, e
		}},
		{"Behind", func(q request) ([]any, api.Errno) {
			v, e := desk.Behind(q.V, q.Pours)
			return []any{v}, e
		}},
		{"Begin", func(q request) ([]any, api.Errno) {
			v, _, e := desk.Begin(q.V, q.Pours)
			return []any{v}, e
		}},
		{"Why", func(q request) ([]any, api.Errno) {
			n, s, e := desk.Why(q.V, q.Pours)
			return []any{n, s}, e
		}},
		{"Work", func(q request) ([]any, api.Errno) {
			w, e := desk.Work(q.V, q.Tasks, q.Change)
			return []any{w}, e
		}},
		{"Do", func(q request) ([]any, api.Errno) {
			d := desk.New()
			l := d.Do(q.Command)
			return []any{l, d.Voyage(), d.Book(q.Change)}, api.OK
		}},
		{"Run", func(q request) ([]any, api.Errno) {
			s, _, e := desk.Run(q.Script)
			return []any{s}, e
		}},
		{"Bundle", func(q request) ([]any, api.Errno) {
			s, _, e := desk.Bundle(q.Script)
			return []any{s}, e
		}},
		{"Open", func(q request) ([]any, api.Errno) {
			s, u, _, e := desk.Open(q.Bundle)
			return []any{s, u}, e
		}},
		{"Accept", func(q request) ([]any, api.Errno) {
			_, e := desk.Accept(q.Bundle)
			return nil, e
		}},
	}
}

// isNothing reports whether a value is a zero value; empty lists count as such.
func isNothing(v reflect.Value) bool {
	switch v.Kind() {
	case reflect.Slice:
		return v.Len() == 0
	case reflect.Struct:
		for i := range v.NumField() {
			if !isNothing(v.Field(i)) {
				return false
			}
		}
		return true
	}
	return v.IsZero()
}

func areNothing(l []any) bool {
	return !slices.ContainsFunc(l, func(x any) bool { return !isNothing(reflect.ValueOf(x)) })
}

// block is the memory of a list.
type block struct{ from, to uintptr }

// blocks are those of all lists of a value.
func blocks(v reflect.Value) []block {
	var l []block
	switch v.Kind() {
	case reflect.Slice:
		if v.Cap() > 0 {
			l = append(l, block{v.Pointer(), v.Pointer() + uintptr(v.Cap())*v.Type().Elem().Size()})
		}
		for i := range v.Len() {
			l = append(l, blocks(v.Index(i))...)
		}
	case reflect.Array:
		for i := range v.Len() {
			l = append(l, blocks(v.Index(i))...)
		}
	case reflect.Struct:
		for i := range v.NumField() {
			l = append(l, blocks(v.Field(i))...)
		}
	}
	return l
}

// shares reports whether any two of these blocks share memory.
func shares(l []block) bool {
	slices.SortFunc(l, func(a, b block) int { return int(a.from) - int(b.from) })
	for i := 1; i < len(l); i++ {
		if l[i].from < l[i-1].to {
			return true
		}
	}
	return false
}

// spoil makes all elements of lists others.
func spoil(v reflect.Value) {
	switch v.Kind() {
	case reflect.Slice:
		for i := range v.Len() {
			spoil(v.Index(i))
			v.Index(i).SetZero()
		}
	case reflect.Array:
		for i := range v.Len() {
			spoil(v.Index(i))
		}
	case reflect.Struct:
		for i := range v.NumField() {
			spoil(v.Field(i))
		}
	}
}

// TestMemory is R4: no argument is changed, and no result shares memory with one, or with another one.
func TestMemory(t *testing.T) {
	for _, change := range []func(q *request){
		func(q *request) {},
		func(q *request) { q.Pours = q.Pours[:1] },
		func(q *request) { q.Pours[0].Mass = at(20000) },
		func(q *request) { q.V.Fills[0] = partly(1, 2900, 3000) },
		func(q *request) { q.Tasks = append(q.Tasks, task(2, 1, 100), task(3, 2, 100)) },
		func(q *request) { q.Command = command(t, voyageScript()[1]) },
		func(q *request) { q.Command = command(t, voyageScript()[12]) },
		func(q *request) { q.Command = command(t, holdLine(3)) },
		func(q *request) { q.Command = command(t, "note 3 1 7 100 120 5 0 0"); q.Change = 3 },
	} {
		for _, f := range calls() {
			ask := func() request {
				q := exampleRequest()
				change(&q)
				return q
			}
			q := ask()
			want, _ := f.do(ask())
			x, _ := f.do(q)
			if !reflect.DeepEqual(q, ask()) || !reflect.DeepEqual(x, want) {
				t.Errorf("%s has changed its arguments", f.what)
			}
			all := blocks(reflect.ValueOf(q))
			for _, y := range x {
				all = append(all, blocks(reflect.ValueOf(y))...)
			}
			if shares(all) {
				t.Errorf("%s: a result shares memory", f.what)
			}
			for _, y := range x {
				spoil(reflect.ValueOf(y))
			}
			if again, _ := f.do(q); !reflect.DeepEqual(q, ask()) || !reflect.DeepEqual(again, want) {
				t.Errorf("%s: another result, once the first one was spoilt", f.what)
			}
		}
	}
}

// TestMemoryOfDesks: what a desk has handed out, or was handed, may be changed without changing the desk.
func TestMemoryOfDesks(t *testing.T) {
	d := desk.New()
	for _, line := range append(voyageScript(), tankLine(3), `given 3 9 "rain"`, "note 1 1 7 100 120 5 0 0", "note 1 1 8 100 120 5 0 0", "lot 1 1 1 0", "deed 1 1 0 3 60", "pour 1 3000 3000 1000 1000", "facts", "books") {
		c := command(t, line)
		l := d.Do(c)
		for i := range l {
			l[i] = "spoilt"
		}
		for i := range c.Args {
			c.Args[i] = -1
		}
		for i := range c.Texts {
			c.Texts[i] = "spoilt"
		}
	}
	was := stateOf(d)
	if all := append(blocks(reflect.ValueOf(d.Voyage())), blocks(reflect.ValueOf(d.Voyage()))...); shares(all) {
		t.Error("two voyages share memory")
	}
	v, b := d.Voyage(), d.Book(1)
	if len(v.Fills) != 2 || len(b.Entries) != 2 {
		t.Error(v, b)
	}
	spoil(reflect.ValueOf(v))
	spoil(reflect.ValueOf(b))
	if !reflect.DeepEqual(stateOf(d), was) {
		t.Error("the desk has changed")
	}
}

// TestRoomBehindLists: what lies in memory behind the lists that are handed in is kept.
func TestRoomBehindLists(t *testing.T) {
	for _, f := range calls() {
		q := exampleRequest()
		fills, given, pours, tasks := append(q.V.Fills, partly(9, 1, 2)), append(q.V.Given, api.Fact{Name: "x"}), append(q.Pours, pour(9, 9)), append(q.Tasks, task(3, 9, 9))
		q.V.Fills, q.V.Given, q.Pours, q.Tasks = fills[:2], given[:1], pours[:2], tasks[:2]
		// (Why has nothing to tell of what is safe.)
		if _, e := f.do(q); e != api.OK && f.what != "Why" {
			t.Error(f.what, e)
		}
		if fills[2] != partly(9, 1, 2) || given[1].Name != "x" || pours[2] != pour(9, 9) || tasks[2] != task(3, 9, 9) {
			t.Errorf("%s has changed what lies behind its arguments", f.what)
		}
	}
}

// emptied makes each nil list of a value an empty one.
func emptied(v reflect.Value) {
	switch v.Kind() {
	case reflect.Slice:
		if v.IsNil() {
			v.Set(reflect.MakeSlice(v.Type(), 0, 0))
		}
		for i := range v.Len() {
			emptied(v.Index(i))
		}
	case reflect.Struct:
		for i := range v.NumField() {
			emptied(v.Field(i))
		}
	}
}

// TestNilAndEmpty is R3.
func TestNilAndEmpty(t *testing.T) {
	for _, change := range []func(q *request){
		func(q *request) { *q = request{} },
		func(q *request) {
			q.V.Tanks, q.V.Levels, q.V.Given, q.Pours, q.Tasks, q.Command = nil, nil, nil, nil, nil, api.Command{Kind: api.CmdBooks}
		},
		func(q *request) { q.V.Holds, q.V.Fills, q.V.Code.Rules = nil, nil, nil },
		func(q *request) { q.Command = api.Command{Kind: api.CmdDay, Args: []int{5}} },
	} {
		for _, f := range calls() {
			q, r := exampleRequest(), exampleRequest()
			change(&q)
			change(&r)
			emptied(reflect.ValueOf(&r).Elem())
			x, e := f.do(q)
			y, g := f.do(r)
			if e != g || len(x) != len(y) {
				t.Error(f.what, e, g)
			}
			for i := range x {
				if !sameValue(reflect.ValueOf(x[i]), reflect.ValueOf(y[i])) {
					t.Error(f.what, x[i], y[i])
				}
			}
		}
	}
}

// TestNothing: what the functions tell of nothing.
func TestNothing(t *testing.T) {
	want := map[string]api.Errno{"Parse": api.ErrLine, "Print": api.ErrLine}
	for _, f := range calls() {
		e := want[f.what]
		if slices.Contains([]string{"CheckVoyage", "Facts", "Judge", "Instants", "Behind", "Begin", "Why", "Work"}, f.what) {
			e = api.ErrShip
		}
		x, got := f.do(request{})
		if got != e || got != api.OK && !areNothing(x) {
			t.Errorf("%s of nothing: %v %d, want %d", f.what, x, got, e)
		}
	}
}

// oddNumber is one at a limit, or far from all.
func oddNumber(r *rand.Rand) int {
	l := []int{0, 1, 2, 3, 4, 5, 8, 9, 10, 39, 40, 47, 48, 60, 99, 100, 900, 1000, 2000, 3000, 10000, 100000, 1000000, 1000000000, 1000000000000, 1000000000000000, 1 << 31, 1 << 32, 1 << 62, math.MaxInt, math.MinInt, -1, -2, -1000000, -1000000000000}
	return l[r.Intn(len(l))] + r.Intn(3)*r.Intn(2) - r.Intn(2)
}

// oddText is a text with some of its bytes others, left out or twice.
func oddText(r *rand.Rand, s string) string {
	words := []string{"draft", "rain", "deep", "", "not", "\"", "\\", "\n", " ", "> ", "< ", "#", "cert 2", "prove 0", "\x00", "\xff", "9999999999999999999", "-0", strings.Repeat("a", 12001)}
	at := r.Intn(len(s) + 1)
	return s[:at] + words[r.Intn(len(words))] + s[min(len(s), at+r.Intn(3)):]
}

// change makes a value another one, at random places: numbers, texts, lists, or parts of them.
func change(r *rand.Rand, v reflect.Value) {
	switch v.Kind() {
	case reflect.Int:
		v.SetInt(int64(oddNumber(r)))
	case reflect.String:
		v.SetString(oddText(r, v.String()))
	case reflect.Bool:
		v.SetBool(!v.Bool())
	case reflect.Struct:
		change(r, v.Field(r.Intn(v.NumField())))
	case reflect.Slice:
		n := v.Len()
		switch {
		case n == 0 || r.Intn(8) == 0:
			v.Set(reflect.Append(v.Slice(0, n), reflect.New(v.Type().Elem()).Elem()))
		case r.Intn(6) == 0:
			v.Set(reflect.AppendSlice(v.Slice(0, n/2), v.Slice((n+1)/2, n)))
		case r.Intn(10) == 0 && n < 1000:
			v.Set(reflect.AppendSlice(v.Slice(0, n), v.Slice(0, n)))
		default:
			change(r, v.Index(r.Intn(n)))
		}
	}
}

// TestAnyArguments is P1: no function panics, and beside an error are zero values.
func TestAnyArguments(t *testing.T) {
	r := rand.New(rand.NewSource(94))
	failed := map[string]int{}
	for range 20000 {
		q := exampleRequest()
		for range 1 + r.Intn(12) {
			change(r, reflect.ValueOf(&q).Elem())
		}
		f := calls()[r.Intn(len(calls()))]
		x, e := f.do(q)
		if e != api.OK {
			failed[f.what]++
			if !areNothing(x) {
				t.Errorf("%s: %v with the error %d", f.what, x, e)
			}
		}
	}
	for _, f := range calls() {
		if f.what != "Quote" && f.what != "Do" && failed[f.what] < 20 {
			t.Error("too few cases:", f.what, failed[f.what])
		}
	}
}

// TestAnyCommands is P1 of Do: each command with odd numbers, at a desk that has something of all.
func TestAnyCommands(t *testing.T) {
	r := rand.New(rand.NewSource(95))
	w := writer{r}
	for range 12 {
		d := deskBehind(t, w.beginning()...)
		for range 400 {
			s := shapes()[r.Intn(47)]
			c := api.Command{Kind: s.kind}
			for range s.numbers {
				c.Args = append(c.Args, max(-api.MaxWide, min(api.MaxWide, oddNumber(r))))
			}
			for range s.texts {
				c.Texts = append(c.Texts, oddText(r, "0 1 1\n800 7 8\n"))
			}
			if r.Intn(5) == 0 {
				change(r, reflect.ValueOf(&c).Elem())
			}
			if l := d.Do(c); len(l) == 0 || slices.Contains(l, "") {
				t.Fatal(c, l)
			}
		}
	}
	// A desk that was not made by New has no nodes, but does not panic.
	d := &desk.Desk{}
	for range 2000 {
		if l := d.Do(command(t, w.line())); len(l) == 0 {
			t.Fatal("no answer")
		}
	}
}

// TestGreatArguments: lists and texts that are far too long.
func TestGreatArguments(t *testing.T) {
	q := exampleRequest()
	q.Line = strings.Repeat("a ", 10000000)
	q.Text = strings.Repeat("\"\n", 1000000)
	q.Script = strings.Repeat("day 5\n", 1000000)
	q.Bundle = strings.Repeat("> day 5\n< ok\n", 1000000)
	q.Command.Args = make([]int, 1000000)
	q.Pours = slices.Repeat(q.Pours, 1000000)
	q.Tasks = slices.Repeat(q.Tasks, 1000000)
	want := map[string]api.Errno{
		"Words": api.ErrLong, "Parse": api.ErrLong, "Print": api.ErrLine, "Instants": api.ErrArg, "Behind": api.ErrArg, "Begin": api.ErrArg, "Why": api.ErrArg,
		"Work": api.ErrLong, "Run": api.ErrLong, "Bundle": api.ErrLong, "Open": api.ErrLong, "Accept": api.ErrLong,
	}
	for _, f := range calls() {
		if x, e := f.do(q); e != want[f.what] || e != api.OK && !areNothing(x) {
			t.Errorf("%s of great arguments: %d", f.what, e)
		}
	}
	for _, long := range []func(v *api.Voyage){
		func(v *api.Voyage) { v.Ship.Drafts.Points = make([]api.Point, 1000000) },
		func(v *api.Voyage) { v.Ship.Cross = make([]api.Cross, 1000000) },
		func(v *api.Voyage) { v.Holds = make([]api.Hold, 100000) },
		func(v *api.Voyage) { v.Code.Rules = make([]api.Rule, 1000000) },
		func(v *api.Voyage) { v.Given = make([]api.Fact, 1000000) },
	} {
		v := exampleVoyage()
		long(&v)
		if e := desk.CheckVoyage(v); e == api.OK || e != wantCheck(v) {
			t.Error(e)
		}
	}
}
