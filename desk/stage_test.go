package desk_test

import (
	"slices"
	"testing"

	"ullage/api"
	"ullage/desk"
)

// fillsOf are the fills of voyages.
func fillsOf(l []api.Voyage) [][]api.Fill {
	var all [][]api.Fill
	for _, v := range l {
		all = append(all, v.Fills)
	}
	return all
}

// expectInstants expects the fills of all instants, and that all else is as it was.
func expectInstants(t *testing.T, v api.Voyage, l []api.Pour, want ...[]api.Fill) {
	t.Helper()
	got, e := desk.Instants(v, l)
	if !slices.EqualFunc(fillsOf(got), want, slices.Equal[[]api.Fill]) || e != api.OK {
		t.Errorf("%v %d, want %v", fillsOf(got), e, want)
	}
	for _, w := range got {
		w.Fills = v.Fills
		if !sameVoyage(w, v) {
			t.Error("another voyage", w)
		}
	}
}

// expectBehind expects the fills behind a stage, and that all else is as it was.
func expectBehind(t *testing.T, v api.Voyage, l []api.Pour, want ...api.Fill) {
	t.Helper()
	w, e := desk.Behind(v, l)
	if !slices.Equal(w.Fills, want) || e != api.OK {
		t.Errorf("%v %d, want %v", w.Fills, e, want)
	}
	w.Fills = v.Fills
	if !sameVoyage(w, v) {
		t.Error("another voyage", w)
	}
}

func TestInstants(t *testing.T) {
	v := exampleVoyage()
	none := api.Fill{Hold: 1}
	other := api.Fill{Hold: 2}
	way, done := partly(1, 2699, 3000), partly(1, 2699, 2701)
	expectInstants(t, v, []api.Pour{pour(1, 3000)}, []api.Fill{none, other}, []api.Fill{way, other}, []api.Fill{done, other})
	expectBehind(t, v, []api.Pour{pour(1, 3000)}, done, other)
	// Of two pours, the second one's fills come for each one of the first one's, whichever holds they are into.
	far, end := partly(2, 1999, 3000), partly(2, 1999, 2001)
	expectInstants(t, v, []api.Pour{pour(1, 3000), pour(2, 10000)},
		[]api.Fill{none, other}, []api.Fill{none, far}, []api.Fill{none, end},
		[]api.Fill{way, other}, []api.Fill{way, far}, []api.Fill{way, end},
		[]api.Fill{done, other}, []api.Fill{done, far}, []api.Fill{done, end})
	expectInstants(t, v, []api.Pour{pour(2, 10000), pour(1, 3000)},
		[]api.Fill{none, other}, []api.Fill{way, other}, []api.Fill{done, other},
		[]api.Fill{none, far}, []api.Fill{way, far}, []api.Fill{done, far},
		[]api.Fill{none, end}, []api.Fill{way, end}, []api.Fill{done, end})
	expectBehind(t, v, []api.Pour{pour(2, 10000), pour(1, 3000)}, done, end)
	// Into grain that is there already, one fill covers all.
	v.Fills[0] = done
	expectInstants(t, v, []api.Pour{pour(1, 2000)}, []api.Fill{partly(1, 2498, 2701), other})
	expectBehind(t, v, []api.Pour{pour(1, 2000)}, partly(1, 2498, 2502), other)
}

func TestStageErrors(t *testing.T) {
	v := exampleVoyage()
	v.Holds = append(v.Holds, exampleHold(3), exampleHold(4))
	v.Fills = append(v.Fills, api.Fill{Hold: 3, State: api.Strapped, Density: at(1000)}, api.Fill{Hold: 4, State: api.Trimmed, Density: at(1000)})
	with := func(p api.Pour, change func(p *api.Pour)) api.Pour {
		change(&p)
		return p
	}
	backward := with(pour(1, 3000), func(p *api.Pour) { p.Mass = span(3, 2) })
	thin := with(pour(1, 3000), func(p *api.Pour) { p.Density = at(99) })
	less := with(pour(1, 3000), func(p *api.Pour) { p.Mass = span(-1, 2) })
	for i, c := range []struct {
		l []api.Pour
		e api.Errno
	}{
		{nil, api.ErrArg},
		{[]api.Pour{}, api.ErrArg},
		{[]api.Pour{pour(1, 1), pour(2, 1), pour(5, 1)}, api.ErrArg},
		{[]api.Pour{pour(1, 1), pour(1, 1)}, api.ErrArg},
		{[]api.Pour{pour(5, 1), pour(5, 1)}, api.ErrArg},
		{[]api.Pour{pour(5, 1)}, api.ErrHold},
		{[]api.Pour{pour(0, 1)}, api.ErrHold},
		{[]api.Pour{pour(1, 1), pour(5, 1)}, api.ErrHold},
		{[]api.Pour{backward}, api.ErrRange},
		{[]api.Pour{thin}, api.ErrFill},
		{[]api.Pour{less}, api.ErrArg},
		{[]api.Pour{pour(3, 1)}, api.ErrFill},
		{[]api.Pour{pour(4, 1)}, api.ErrRoom},
		{[]api.Pour{pour(1, 40000)}, api.ErrRoom},
		{[]api.Pour{pour(1, 40000), pour(5, 1)}, api.ErrRoom},
		{[]api.Pour{pour(5, 1), pour(1, 40000)}, api.ErrHold},
		{[]api.Pour{backward, pour(3, 1)}, api.ErrRange},
		{[]api.Pour{pour(3, 1), backward}, api.ErrFill},
		{[]api.Pour{pour(2, 1), thin}, api.ErrFill},
	} {
		if l, e := desk.Instants(v, c.l); e != c.e || l != nil {
			t.Error("Instants", i, l, e)
		}
		if w, e := desk.Behind(v, c.l); e != c.e || !sameVoyage(w, api.Voyage{}) {
			t.Error("Behind", i, w, e)
		}
		if w, n, e := desk.Begin(v, c.l); e != c.e || n != 0 || !sameVoyage(w, api.Voyage{}) {
			t.Error("Begin", i, w, n, e)
		}
		if n, s, e := desk.Why(v, c.l); e != c.e || n != 0 || s != "" {
			t.Error("Why", i, n, s, e)
		}
	}
}

// expectStage expects what Begin and Why tell of a stage: the number of its instants, or the index of the first one that is not sure, and the error or the rule.
func expectStage(t *testing.T, v api.Voyage, n int, wrong api.Errno, rule string, l ...api.Pour) {
	t.Helper()
	w, got, e := desk.Begin(v, l)
	after, _ := desk.Behind(v, l)
	if wrong != api.OK {
		after = api.Voyage{}
	}
	if got != n || e != wrong || !sameVoyage(w, after) {
		t.Errorf("Begin: %d %d, want %d %d", got, e, n, wrong)
	}
	at, name, e := desk.Why(v, l)
	want := wrong
	switch wrong {
	case api.OK:
		want, n = api.ErrNone, 0
	case api.ErrUnsafe:
		want = api.OK
	default:
		n = 0
	}
	if at != n || name != rule || e != want {
		t.Errorf("Why: %d %q %d, want %d %q %d", at, name, e, n, rule, want)
	}
}

func TestBeginAndWhy(t *testing.T) {
	v := exampleVoyage()
	expectStage(t, v, 3, api.OK, "", pour(1, 3000))
	expectStage(t, v, 9, api.OK, "", pour(1, 3000), pour(2, 4000))
	// With 10000 kilograms the ullage may be 1999, at which there are 10010, and so more than 30 tonnes in all.
	expectStage(t, v, 3, api.OK, "", pour(1, 9999))
	expectStage(t, v, 1, api.ErrUnsafe, "deep", pour(1, 10000))
	expectStage(t, v, 1, api.ErrUnsafe, "deep", pour(1, 13000))
	// Each one alone is safe, but not while both are poured.
	expectStage(t, v, 3, api.OK, "", pour(1, 6000))
	expectStage(t, v, 3, api.OK, "", pour(2, 6000))
	expectStage(t, v, 4, api.ErrUnsafe, "deep", pour(1, 6000), pour(2, 6000))
	expectStage(t, v, 1, api.ErrUnsafe, "deep", pour(1, 3000), pour(2, 12000))
	expectStage(t, v, 3, api.ErrUnsafe, "deep", pour(1, 12000), pour(2, 3000))
	// The beginning is an instant, too.
	v.Day = 30
	expectStage(t, v, 0, api.ErrUnsafe, "wet", pour(1, 3000))
	v.Given = []api.Fact{{Name: "rain", Value: span(0, 19)}}
	expectStage(t, v, 3, api.OK, "", pour(1, 13000))
	v.Given[0].Value = at(20)
	expectStage(t, v, 0, api.ErrUnsafe, "wet", pour(1, 3000))
	// What is not known of the ship is not sure: an error that comes first decides.
	v = exampleVoyage()
	v.Ship.Drafts = plain(0, 0, 25, 25000)
	expectStage(t, v, 3, api.OK, "", pour(1, 3000))
	expectStage(t, v, 1, api.ErrNone, "", pour(1, 6000))
	v.Code.Facts[0].Value = span(0, 22000)
	expectStage(t, v, 1, api.ErrFact, "", pour(1, 3000))
	v.Code.Rules[0].Must = most("draft", 19999)
	expectStage(t, v, 0, api.ErrUnsafe, "deep", pour(1, 3000))
	v.Ship.Drafts = plain(0, 0, 25, 25000)
	v.Code.Facts[0].Value = span(0, 19000)
	expectStage(t, v, 0, api.ErrFact, "", pour(1, 3000))
}

// TestWhyNamesTheRule: of several rules that are broken, the first one for the least values.
func TestWhyNamesTheRule(t *testing.T) {
	v := exampleVoyage()
	v.Code.Rules = []api.Rule{
		{Name: "late", From: 9, To: 99, When: always(), Must: most("draft", 0)},
		{Name: "twenty", To: 9, When: always(), Must: most("draft", 26000)},
		{Name: "more", To: 9, When: always(), Must: most("draft", 24000)},
	}
	expectStage(t, v, 1, api.ErrUnsafe, "more", pour(1, 5000))
	expectStage(t, v, 1, api.ErrUnsafe, "more", pour(1, 9000))
	v.Code.Rules[2].Must = most("draft", 26000)
	expectStage(t, v, 1, api.ErrUnsafe, "twenty", pour(1, 9000))
	v.Day = 9
	expectStage(t, v, 0, api.ErrUnsafe, "late", pour(1, 1000))
}
