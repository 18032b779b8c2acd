package desk_test

import (
	"slices"
	"strconv"
	"testing"

	"ullage/api"
	"ullage/desk"
)

// flaw is what makes a voyage invalid.
type flaw struct {
	what string
	do   func(v *api.Voyage)
	e    api.Errno
}

// flaws has what can be wrong with a voyage, in the order in which it is told.
func flaws() []flaw {
	given := func(l ...api.Fact) func(v *api.Voyage) {
		return func(v *api.Voyage) { v.Given = append(v.Given, l...) }
	}
	fact := func(name string, lo, hi int) api.Fact { return api.Fact{Name: name, Value: span(lo, hi)} }
	l := []flaw{
		{"a ship without length", func(v *api.Voyage) { v.Ship.Length = 0 }, api.ErrShip},
		{"a ship without a table", func(v *api.Voyage) { v.Ship.Sine.Points = nil }, api.ErrShip},
		{"ten holds", func(v *api.Voyage) {
			v.Holds, v.Fills = slices.Repeat(v.Holds, 5), slices.Repeat(v.Fills, 5)
		}, api.ErrLong},
		{"a fill too few", func(v *api.Voyage) { v.Fills = v.Fills[1:] }, api.ErrArg},
		{"a level without a tank", func(v *api.Voyage) { v.Levels = append(v.Levels, api.Level{}) }, api.ErrArg},
		{"a hold", func(v *api.Voyage) { v.Holds[0].Id = 10 }, api.ErrHold},
		{"a fill", func(v *api.Voyage) { v.Fills[0].State = 6 }, api.ErrFill},
		{"a tank", func(v *api.Voyage) {
			v.Tanks, v.Levels = append([]api.Tank{{}}, v.Tanks...), append([]api.Level{{}}, v.Levels...)
		}, api.ErrTank},
		{"a level", func(v *api.Voyage) {
			v.Tanks, v.Levels = append(v.Tanks, exampleTank(7)), append(v.Levels, api.Level{Tank: 7})
		}, api.ErrLevel},
		{"a code without a name", func(v *api.Voyage) { v.Code.Name = "" }, api.ErrName},
		{"a code without facts", func(v *api.Voyage) { v.Code.Facts = nil }, api.ErrCode},
		{"a rule", func(v *api.Voyage) { v.Code.Rules[1].From = -1 }, api.ErrDay},
	}
	var many []api.Fact
	for i := range 9 {
		many = append(many, fact("x"+strconv.Itoa(i), 0, 0))
	}
	l = append(l, flaw{"nine facts", given(many...), api.ErrLong},
		flaw{"a fact's range", given(fact("rain", 2, 1)), api.ErrFact},
		flaw{"a great value", given(fact("rain", 0, api.MaxValue+1)), api.ErrFact},
		flaw{"a low value", given(fact("rain", -api.MaxValue-1, 0)), api.ErrFact},
		flaw{"a fact without a name", given(fact("", 0, 1)), api.ErrFact},
		flaw{"a word of the language", given(fact("not", 0, 1)), api.ErrFact},
		flaw{"a long name", given(fact("abcdefghijklm", 0, 1)), api.ErrFact},
		flaw{"a fact twice", given(fact("wind", 0, 1), fact("wind", 0, 1)), api.ErrFact})
	for _, name := range shipsNames {
		l = append(l, flaw{"a fact of the ship, " + name, given(fact(name, 0, 1)), api.ErrFact})
	}
	return append(l,
		flaw{"a day below 0", func(v *api.Voyage) { v.Day = -1 }, api.ErrDay},
		flaw{"a late day", func(v *api.Voyage) { v.Day = 100001 }, api.ErrDay},
		flaw{"an angle below 0", func(v *api.Voyage) { v.Most = -1 }, api.ErrArg},
		flaw{"a great angle", func(v *api.Voyage) { v.Most = 901 }, api.ErrArg})
}

// TestCheckVoyage makes each flaw, and each two of them: the earlier one decides, in CheckVoyage and in all functions that have a voyage.
func TestCheckVoyage(t *testing.T) {
	l := flaws()
	for i, a := range l {
		expectCheck(t, a.e, a)
		for _, b := range l[i+1:] {
			expectCheck(t, a.e, b, a)
		}
	}
	expectCheck(t, api.OK)
}

func expectCheck(t *testing.T, want api.Errno, l ...flaw) {
	t.Helper()
	v := exampleVoyage()
	what := ""
	for _, f := range l {
		f.do(&v)
		what += f.what + "; "
	}
	if e := desk.CheckVoyage(v); e != want || e != wantCheck(v) {
		t.Errorf("%s: %d, want %d", what, e, want)
	}
	if want == api.OK || len(l) > 1 {
		return
	}
	// What else is wrong comes behind.
	none := []api.Pour{}
	if f, e := desk.Facts(v); e != want || f != nil {
		t.Error("Facts:", what, f, e)
	}
	if n, e := desk.Judge(v); e != want || n != 0 {
		t.Error("Judge:", what, n, e)
	}
	if l, e := desk.Instants(v, none); e != want || l != nil {
		t.Error("Instants:", what, l, e)
	}
	if w, e := desk.Behind(v, none); e != want || !sameVoyage(w, api.Voyage{}) {
		t.Error("Behind:", what, w, e)
	}
	if w, n, e := desk.Begin(v, none); e != want || n != 0 || !sameVoyage(w, api.Voyage{}) {
		t.Error("Begin:", what, w, n, e)
	}
	if n, s, e := desk.Why(v, none); e != want || n != 0 || s != "" {
		t.Error("Why:", what, n, s, e)
	}
	if w, e := desk.Work(v, nil, -1); e != want || !same(w, api.Work{}) {
		t.Error("Work:", what, w, e)
	}
}

// TestValidVoyages: what is just as it may be.
func TestValidVoyages(t *testing.T) {
	for i, change := range []func(v *api.Voyage){
		func(v *api.Voyage) {},
		func(v *api.Voyage) { v.Day = 0 },
		func(v *api.Voyage) { v.Day = 100000 },
		func(v *api.Voyage) { v.Most = 0 },
		func(v *api.Voyage) { v.Most = 900 },
		func(v *api.Voyage) { v.Holds, v.Fills = nil, nil },
		func(v *api.Voyage) { v.Holds, v.Fills, v.Given = []api.Hold{}, []api.Fill{}, []api.Fact{} },
		func(v *api.Voyage) {
			for i := range 8 {
				v.Given = append(v.Given, api.Fact{Name: "abcdefghijk" + strconv.Itoa(i), Value: span(-api.MaxValue, api.MaxValue)})
			}
		},
		func(v *api.Voyage) { v.Given = []api.Fact{{Name: "drafts"}, {Name: "fact1"}} },
	} {
		v := exampleVoyage()
		change(&v)
		if e := desk.CheckVoyage(v); e != api.OK {
			t.Error(i, e)
		}
	}
}

func expectFacts(t *testing.T, v api.Voyage, wrong api.Errno, want ...api.Fact) {
	t.Helper()
	if f, e := desk.Facts(v); !slices.Equal(f, want) || e != wrong {
		t.Errorf("%v %d, want %v %d", f, e, want, wrong)
	}
	if f, e := wantFacts(v); !slices.Equal(f, want) || e != wrong {
		t.Errorf("the oracle has %v %d, want %v %d", f, e, want, wrong)
	}
}

func TestFacts(t *testing.T) {
	v := exampleVoyage()
	expectFacts(t, v, api.OK, api.Fact{Name: "draft", Value: at(20000)}, api.Fact{Name: "rain", Value: span(0, 50)})
	v.Given = []api.Fact{{Name: "wind", Value: at(7)}, {Name: "rain", Value: span(3, 9)}}
	expectFacts(t, v, api.OK, api.Fact{Name: "draft", Value: at(20000)}, api.Fact{Name: "rain", Value: span(3, 9)})
	// The facts are those of the code, in its order; what else is given does not count.
	v.Code.Facts = []api.Fact{{Name: "rain", Value: span(3, 9)}, {Name: "gm", Value: span(0, 9000)}, {Name: "draft", Value: at(20000)}, {Name: "sun", Value: span(-1, 1)}}
	v.Code.Rules = nil
	expectFacts(t, v, api.OK, api.Fact{Name: "rain", Value: span(3, 9)}, api.Fact{Name: "gm", Value: at(5000)}, api.Fact{Name: "draft", Value: at(20000)}, api.Fact{Name: "sun", Value: span(-1, 1)})
	// A value that is not within the code's; the first fact with an error decides.
	v.Code.Facts[0].Value = span(4, 9)
	expectFacts(t, v, api.ErrFact)
	v.Code.Facts[0].Value = span(3, 8)
	expectFacts(t, v, api.ErrFact)
	v.Code.Facts[0].Value = span(3, 9)
	v.Code.Facts[2].Value = span(20001, 30000)
	expectFacts(t, v, api.ErrFact)
	// At 20 tonnes this ship has no draft.
	v.Ship.Drafts = plain(0, 0, 19, 19000)
	expectFacts(t, v, api.ErrNone)
	v.Code.Facts[0].Value = span(4, 9)
	expectFacts(t, v, api.ErrFact)
	// A fact given with a name of the ship's is no fact of hers: there is no such voyage.
	v = exampleVoyage()
	v.Given = []api.Fact{{Name: "draft", Value: at(20000)}}
	expectFacts(t, v, api.ErrFact)
	// The angle up to which areas count is the voyage's.
	v = exampleVoyage()
	v.Code.Facts[0] = api.Fact{Name: "area", Value: span(-api.MaxValue, api.MaxValue)}
	v.Code.Rules = nil
	for most, area := range map[int]int{0: 0, 400: 1060000, 800: 4240000} {
		v.Most = most
		expectFacts(t, v, api.OK, api.Fact{Name: "area", Value: at(area)}, api.Fact{Name: "rain", Value: span(0, 50)})
	}
	// A load that no ship has: the grain's centre is too high.
	v = exampleVoyage()
	v.Holds[0].Height = plain(0, 2000000, 3000, 1000)
	v.Fills[0] = partly(1, 0, 0)
	expectFacts(t, v, api.ErrLoad)
}

func TestJudge(t *testing.T) {
	expectJudge := func(v api.Voyage, want int, wrong api.Errno) {
		t.Helper()
		if n, e := desk.Judge(v); n != want || e != wrong {
			t.Errorf("%d %d, want %d %d", n, e, want, wrong)
		}
	}
	v := exampleVoyage()
	expectJudge(v, api.Yes, api.OK)
	v.Ship.Light.Mass = at(30000)
	expectJudge(v, api.Yes, api.OK)
	v.Ship.Light.Mass = at(31000)
	expectJudge(v, api.No, api.OK)
	v.Ship.Light.Mass = span(30000, 30001)
	expectJudge(v, api.Maybe, api.OK)
	v.Day = 10
	expectJudge(v, api.Yes, api.OK)
	v.Day = 20
	expectJudge(v, api.Maybe, api.OK)
	v.Given = []api.Fact{{Name: "rain", Value: span(0, 19)}}
	expectJudge(v, api.Yes, api.OK)
	v.Given[0].Value = at(20)
	expectJudge(v, api.No, api.OK)
	v.Given[0].Value = at(51)
	expectJudge(v, 0, api.ErrFact)
	v.Ship.Drafts = plain(0, 0, 19, 19000)
	expectJudge(v, 0, api.ErrNone)
}
