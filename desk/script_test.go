package desk_test

import (
	"math/rand"
	"slices"
	"strconv"
	"strings"
	"testing"

	"ullage/api"
	"ullage/desk"
)

// writer writes random lines.
type writer struct{ *rand.Rand }

// one is one of these numbers, with a space ahead.
func (w writer) one(l ...int) string { return " " + strconv.Itoa(l[w.Intn(len(l))]) }

// to is a number from lo to hi, with a space ahead.
func (w writer) to(lo, hi int) string { return " " + strconv.Itoa(lo+w.Intn(hi-lo+1)) }

// pair is a range, seldom one without numbers, with a space ahead.
func (w writer) pair(lo, hi int) string {
	a, b := lo+w.Intn(hi-lo+1), lo+w.Intn(hi-lo+1)
	if w.Intn(12) > 0 {
		a, b = min(a, b), max(a, b)
	}
	return " " + strconv.Itoa(a) + " " + strconv.Itoa(b)
}

// text is one of these texts, quoted, with a space ahead.
func (w writer) text(l ...string) string { return " " + desk.Quote(l[w.Intn(len(l))]) }

// pour are the numbers of a pour.
func (w writer) pour() string {
	mass := w.one(500, 1000, 2000, 3000, 5000, 9000, 40000)
	if w.Intn(4) == 0 {
		return w.to(1, 4) + w.pair(500, 4000) + w.pair(700, 1100)
	}
	return w.to(1, 4) + mass + mass + " 1000 1000"
}

// setup is a line that sets up something.
func (w writer) setup() string {
	switch w.Intn(19) {
	case 0:
		return "length" + w.one(0, 1, 90000, 1000000, 1000001)
	case 1:
		n := w.Intn(9)
		s := exampleShip()
		all := []api.Table{{}, s.Drafts, s.Heights, s.Centres, s.Trims, s.Flood, s.Sine, s.Shift, {}}
		return "table " + strconv.Itoa(n) + w.text(points(all[n]), points(all[n]), points(all[n]), "0 1 1\n100 500 600", "0 1", "0 2 1")
	case 2:
		return "cross" + w.one(0, 99, 101, 200) + w.text("0 0 0\n800 7000 8000", "0 0 0", "x")
	case 3:
		return "light" + w.pair(19000, 22000) + w.pair(-100, 100) + w.pair(2900, 3100)
	case 4:
		return []string{holdLine(w.Intn(5)), tankLine(w.Intn(5))}[w.Intn(2)]
	case 5:
		return "code" + w.text("code a\nfact draft 0 100000\nrule x 0 9 when true must draft <= 31000", "code b\nfact trim -2000 2000\nfact rain 0 50\nfact gm -9000 9000\nrule y 0 99 when rain < 30 must gm > 100\nrule z 0 9 when trim > 100 must rain < 40 unless y", "code c", "code")
	case 6:
		return "given" + w.pair(0, 51) + w.text("rain", "rain", "wind", "gm", "x")
	case 7:
		return "day" + w.one(-1, 0, 5, 9, 20, 100000)
	case 8:
		return "most" + w.one(-1, 300, 400, 900, 901)
	case 9:
		return "fill" + w.to(1, 4) + w.one(3, 3, 3, 4, 6) + w.pair(2000, 3000) + w.pair(900, 1000)
	case 10:
		return []string{"fill" + w.to(1, 4) + w.one(0, 1, 2) + " 0 0" + w.one(0, 900) + w.one(0, 900), "level" + w.one(2, 2, 2, 1, 3) + w.one(0, 0, 1, 2) + w.pair(0, 1000) + " 1000 1025"}[w.Intn(2)]
	case 11:
		return "lot" + w.to(1, 30) + w.to(0, 3) + w.to(1, 9) + w.to(0, 9999)
	case 12, 13:
		return "job" + w.to(-1, 20) + w.to(0, 4) + w.to(0, 90) + w.one(0, 0, 1, 2) + w.pour()
	case 14:
		return []string{"open", "rain"}[w.Intn(2)] + w.pair(0, 500)
	case 15:
		return "passage" + w.pair(0, 30) + w.pair(0, 90)
	case 16:
		return "clock" + w.to(0, 9) + w.to(90, 110) + w.pair(10, 30)
	case 17:
		return "forecast" + w.to(0, 9) + w.pair(0, 10) + w.pair(0, 10)
	}
	return "clear"
}

// act is an act.
func (w writer) act() string {
	switch w.Intn(11) {
	case 0:
		return "pour" + w.pour()
	case 1:
		return "pair" + w.pour() + w.pour()
	case 2, 3:
		kind := []int{0, 1, 1, 1, 1, 2, 3, 4, 5, 6, 7}[w.Intn(11)]
		lot, from, to, mass := w.one(3, 5, 5, 9, 20), " 0", w.to(0, 3), w.to(1, 60)
		switch kind {
		case 3, 5:
			lot, from, to = " 0", w.to(0, 3), " 0"
			mass = w.to(1, 20)
		case 4:
			lot, from = " 0", w.to(0, 3)
		case 6:
			lot, from, to, mass = " 0", w.to(0, 3), " 0", " 0"
		}
		return "deed " + strconv.Itoa(kind) + lot + from + to + mass
	case 4:
		return "note" + w.to(0, 3) + w.to(1, 4) + w.to(7, 9) + w.pair(90, 140) + w.to(0, 30) + " 0 0"
	case 5:
		return "note" + w.to(-1, 3) + w.to(4, 8) + " 0" + w.one(0, 95) + w.one(0, 120) + w.to(0, 30) + w.to(0, 3) + w.to(0, 3)
	case 6:
		return "offer" + w.to(-1, 4) + w.to(0, 4)
	case 7, 8:
		return "deliver" + w.to(-70, 70)
	case 9:
		return []string{"lose", "double"}[w.Intn(2)] + w.to(-70, 70)
	}
	return "restart" + w.to(0, 4) + w.to(-40, 40)
}

// query is a query.
func (w writer) query() string {
	switch w.Intn(16) {
	case 0:
		return "why" + w.pour()
	case 1:
		return "prove" + w.one(0, 500000, 1000000, 1060000, 2000000, -5, 2000000000000)
	case 2:
		return []string{"plan", "blocked"}[w.Intn(2)] + w.one(0, 7, 20, -1)
	case 3:
		return "times" + w.one(0, 7, 20, -1) + w.one(0, 30, 300, -1)
	case 4:
		return "shares" + w.one(-1, 0, 1, 2, 3, 3, 9)
	case 5:
		return "enough" + w.pair(0, 4000) + w.one(0, 50, -1)
	case 6:
		return "closed" + w.to(0, 9) + w.to(85, 145)
	case 7:
		return "calm" + w.to(-1, 9) + w.pair(0, 9) + w.to(0, 9)
	case 8:
		return []string{"ledger", "disputes"}[w.Intn(2)] + w.to(-1, 4)
	case 9:
		return "agreed" + w.to(0, 4) + w.to(7, 9)
	}
	return []string{"facts", "judge", "margin", "accounts", "burnt", "books"}[w.Intn(6)]
}

// line is one of all.
func (w writer) line() string {
	switch n := w.Intn(10); {
	case n < 3:
		return w.setup()
	case n < 7:
		return w.act()
	}
	return w.query()
}

// beginning are lines that set up the example's voyage and something of all else, mostly.
func (w writer) beginning() []string {
	if w.Intn(10) == 0 {
		return nil
	}
	return append(voyageScript(), holdLine(3), tankLine(2), "lot 3 1 1 0", "lot 5 2 1 0", "job 5 0 60 0 1 3000 3000 1000 1000", "job 7 1 30 1 2 2000 2000 1000 1000", "open 0 300", "rain 40 60", "passage 2 3 10 12", "clock 1 100 20 30", "forecast 0 0 9 0 8")
}

// TestDeskByModel does random lines at a desk and at a model.
func TestDeskByModel(t *testing.T) {
	w := writer{rand.New(rand.NewSource(111))}
	done, refused, unsafe := map[string]int{}, map[string]int{}, 0
	for range 300 {
		d, m := desk.New(), newModel()
		lines := w.beginning()
		for range 120 {
			lines = append(lines, w.line())
		}
		for _, line := range lines {
			c := command(t, line)
			got, want := d.Do(c), m.do(c)
			if !slices.Equal(got, want) {
				t.Fatalf("%s: %q, want %q", line, got, want)
			}
			word, _, _ := strings.Cut(line, " ")
			switch {
			case strings.HasPrefix(got[0], "unsafe"):
				unsafe++
			case strings.HasPrefix(got[0], "error"):
				refused[word]++
			default:
				done[word]++
			}
		}
		if v := d.Voyage(); !sameVoyage(v, m.v) {
			t.Fatalf("%v, want %v", v, m.v)
		}
		for p := range 4 {
			if b := d.Book(p); !same(b, m.nodes[p].Store.Book) {
				t.Fatalf("%v, want %v", b, m.nodes[p].Store.Book)
			}
		}
	}
	never := []string{"clear", "burnt", "accounts", "books"} // these are never refused
	for _, s := range shapes() {
		if done[s.word] < 40 || refused[s.word] < 15 && !slices.Contains(never, s.word) {
			t.Error("too few cases:", s.word, done[s.word], refused[s.word])
		}
	}
	if unsafe < 50 {
		t.Error("too few cases:", unsafe)
	}
}
