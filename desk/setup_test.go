package desk_test

import (
	"slices"
	"strconv"
	"strings"
	"testing"

	"ullage/api"
	"ullage/desk"
)

// expectVoyage expects the voyage of a desk.
func expectVoyage(t *testing.T, d *desk.Desk, want api.Voyage) {
	t.Helper()
	if v := d.Voyage(); !sameVoyage(v, want) {
		t.Errorf("%v, want %v", v, want)
	}
}

// TestVoyageOfLines: the lines that set up the example's voyage.
func TestVoyageOfLines(t *testing.T) {
	d := desk.New()
	expectVoyage(t, d, api.Voyage{})
	for _, line := range voyageScript() {
		expect(t, d, line, "ok")
	}
	v := exampleVoyage()
	expectVoyage(t, d, v)
	if e := desk.CheckVoyage(d.Voyage()); e != api.OK {
		t.Error(e)
	}
	expect(t, d, tankLine(3), "ok")
	expect(t, d, "given 3 9 \"rain\"", "ok")
	v.Tanks, v.Levels = []api.Tank{exampleTank(3)}, []api.Level{{Tank: 3, Sounding: at(0), Density: at(1000)}}
	v.Given = []api.Fact{{Name: "rain", Value: span(3, 9)}}
	expectVoyage(t, d, v)
}

// TestShipSet: each line sets what it names, and can be said again; what is refused changes nothing.
func TestShipSet(t *testing.T) {
	d := ready(t)
	v := exampleVoyage()
	expect(t, d, "length 1", "ok")
	expect(t, d, "length 1000000", "ok")
	v.Ship.Length = 1000000
	expectVoyage(t, d, v)
	expectError(t, d, "length 0", api.ErrShip)
	expectError(t, d, "length 1000001", api.ErrShip)
	for i, at := range []*api.Table{&v.Ship.Drafts, &v.Ship.Heights, &v.Ship.Centres, &v.Ship.Trims, &v.Ship.Flood, &v.Ship.Sine, &v.Ship.Shift} {
		n := strconv.Itoa(i + 1)
		expect(t, d, "table "+n+` "`+n+` 2 3\n#\n40 -7 5"`, "ok")
		*at = api.Table{Points: []api.Point{{X: i + 1, Lo: 2, Hi: 3}, {X: 40, Lo: -7, Hi: 5}}}
		expectVoyage(t, d, v)
	}
	for line, e := range map[string]api.Errno{
		`table 0 "0 0 0"`: api.ErrArg, `table 8 "0 0 0"`: api.ErrArg, `table -1 "0 0 0"`: api.ErrArg,
		`table 0 ""`: api.ErrText, `table 1 "0 0"`: api.ErrText, `table 9 "1 0 0\n1 0 0"`: api.ErrTable, `table 1 "0 5 4"`: api.ErrTable,
		`table 9 "` + strings.Repeat("#", 8001) + `"`: api.ErrLong,
	} {
		expectError(t, d, line, e)
	}
	expect(t, d, "light 1 2 -1000000 4 5 1000000", "ok")
	v.Ship.Light = api.Weight{Mass: span(1, 2), Along: span(-1000000, 4), High: span(5, 1000000)}
	expectVoyage(t, d, v)
	for _, line := range []string{"light 2 1 3 4 5 6", "light -1 1 3 4 5 6", "light 1 2 4 3 5 6", "light 1 2 3 1000001 5 6", "light 1 2 3 4 -1 6", "light 1 2 3 4 6 5"} {
		expectError(t, d, line, api.ErrWeight)
	}
}

func TestCross(t *testing.T) {
	d := desk.New()
	for _, line := range []string{`cross -1 "0 0 0"`, `cross 1000001 "0 0 0"`} {
		expectError(t, d, line, api.ErrShip)
	}
	expectError(t, d, `cross -1 "0 0"`, api.ErrText)
	expectError(t, d, `cross 5 "0 1 0"`, api.ErrTable)
	var want []api.Cross
	for i := range 12 {
		n := i
		if i == 11 {
			n = 1000000
		}
		expect(t, d, "cross "+strconv.Itoa(n)+` "0 `+strconv.Itoa(i)+` 20"`, "ok")
		want = append(want, api.Cross{Tonnes: n, Arms: api.Table{Points: []api.Point{{Lo: i, Hi: 20}}}})
		expectVoyage(t, d, api.Voyage{Ship: api.Ship{Cross: want}})
		expectError(t, d, "cross "+strconv.Itoa(n)+` "0 0 0"`, api.ErrShip)
	}
	expectError(t, d, `cross 1000001 "0 0 0"`, api.ErrShip)
	expectError(t, d, `cross 2000000 ""`, api.ErrText)
	// Twelve are enough, wherever the last one is.
	d = desk.New()
	for i := range 12 {
		expect(t, d, "cross "+strconv.Itoa(i)+` "0 0 0"`, "ok")
	}
	expectError(t, d, `cross 12 "0 0 0"`, api.ErrShip)
}

// compartment is the line of a hold or a tank whose numbers all are valid.
func holdOf(id string, texts ...string) string {
	return "hold " + id + " -5 6 1 2 3 4 5 6 7 8 " + quoted(texts)
}

func tankOf(id string, texts ...string) string { return "tank " + id + " -5 6 " + quoted(texts) }

func quoted(texts []string) string {
	var l []string
	for _, s := range texts {
		l = append(l, desk.Quote(s))
	}
	return strings.Join(l, " ")
}

func TestHolds(t *testing.T) {
	d := desk.New()
	falling, flat := "3 9 9\n5 1 1", "3 7 8\n5 7 8"
	// A table's error comes first, that of the first table ahead of that of the second one.
	expectError(t, d, holdOf("0", falling, "3", "5 5 5\n3 3 3"), api.ErrText)
	expectError(t, d, holdOf("0", falling, "5 5 5\n3 3 3", "3"), api.ErrTable)
	expectError(t, d, holdOf("0", "", "5 5 5\n3 3 3", "3"), api.ErrText)
	expectError(t, d, holdOf("0", falling, flat, flat), api.ErrHold)
	expectError(t, d, holdOf("10", falling, flat, flat), api.ErrHold)
	expectError(t, d, holdOf("1", "3 1 1\n5 9 9", flat, flat), api.ErrHold)
	expectError(t, d, holdOf("1", falling, flat, "3 1 1\n5 9 9"), api.ErrHold)
	expectError(t, d, "hold 1 6 5 1 2 3 4 5 6 7 8 "+quoted([]string{falling, flat, flat}), api.ErrHold)
	expectError(t, d, "hold 1 -5 6 1 2 3 4 5 -6 7 8 "+quoted([]string{falling, flat, flat}), api.ErrHold)
	var v api.Voyage
	for i := range 9 {
		id := 9 - i
		expect(t, d, holdOf(strconv.Itoa(id), falling, flat, "3 6 6\n5 5 5"), "ok")
		v.Holds = append(v.Holds, api.Hold{
			Id: id, Along: span(-5, 6), Volume: plain(3, 9, 5, 1), Height: plain(3, 6, 5, 5),
			Moment:  api.Table{Points: []api.Point{{X: 3, Lo: 7, Hi: 8}, {X: 5, Lo: 7, Hi: 8}}},
			Trimmed: span(1, 2), Untrimmed: span(3, 4), Volume0: span(5, 6), Height0: span(7, 8),
		})
		v.Fills = append(v.Fills, api.Fill{Hold: id})
		expectVoyage(t, d, v)
		if i < 8 {
			expectError(t, d, holdOf(strconv.Itoa(id), falling, flat, flat), api.ErrHold)
		}
	}
	expectError(t, d, holdOf("1", falling, flat, flat), api.ErrLong)
	expectError(t, d, holdOf("11", falling, flat, flat), api.ErrLong)
	expectError(t, d, holdOf("11", falling, flat, "x"), api.ErrText)
}

func TestTanks(t *testing.T) {
	d := desk.New()
	rising, flat := "3 1 1\n5 9 9", "3 7 8\n5 7 8"
	expectError(t, d, tankOf("0", rising, "3", "5 5 5\n3 3 3"), api.ErrText)
	expectError(t, d, tankOf("0", rising, "5 5 5\n3 3 3", "3"), api.ErrTable)
	expectError(t, d, tankOf("0", rising, flat, flat), api.ErrTank)
	expectError(t, d, tankOf("10", rising, flat, flat), api.ErrTank)
	expectError(t, d, tankOf("1", "3 9 9\n5 1 1", flat, flat), api.ErrTank)
	expectError(t, d, "tank 1 6 5 "+quoted([]string{rising, flat, flat}), api.ErrTank)
	var v api.Voyage
	for i := range 9 {
		id := 9 - i
		expect(t, d, tankOf(strconv.Itoa(id), rising, flat, "3 6 6\n5 6 7"), "ok")
		v.Tanks = append(v.Tanks, api.Tank{
			Id: id, Along: span(-5, 6), Volume: plain(3, 1, 5, 9),
			Surface: api.Table{Points: []api.Point{{X: 3, Lo: 7, Hi: 8}, {X: 5, Lo: 7, Hi: 8}}},
			Height:  api.Table{Points: []api.Point{{X: 3, Lo: 6, Hi: 6}, {X: 5, Lo: 6, Hi: 7}}},
		})
		v.Levels = append(v.Levels, api.Level{Tank: id, Sounding: at(3), Density: at(1000)})
		expectVoyage(t, d, v)
		if i < 8 {
			expectError(t, d, tankOf(strconv.Itoa(id), rising, flat, flat), api.ErrTank)
		}
	}
	expectError(t, d, tankOf("1", rising, flat, flat), api.ErrLong)
	expectError(t, d, tankOf("11", rising, flat, flat), api.ErrLong)
	expectError(t, d, tankOf("11", rising, flat, "x"), api.ErrText)
}

func TestFillsAndLevels(t *testing.T) {
	d := ready(t, tankLine(7), tankLine(3))
	v := d.Voyage()
	expect(t, d, "fill 2 3 100 200 700 800", "ok")
	v.Fills[1] = api.Fill{Hold: 2, State: api.Partly, Ullage: span(100, 200), Density: span(700, 800)}
	expectVoyage(t, d, v)
	expect(t, d, "fill 1 2 0 0 700 700", "ok")
	v.Fills[0] = api.Fill{Hold: 1, State: api.Untrimmed, Density: at(700)}
	expectVoyage(t, d, v)
	expect(t, d, "fill 2 0 0 0 0 0", "ok")
	v.Fills[1] = api.Fill{Hold: 2}
	expectVoyage(t, d, v)
	for line, e := range map[string]api.Errno{
		"fill 3 9 0 0 0 0": api.ErrHold, "fill 0 0 0 0 0 0": api.ErrHold, "fill 2 6 0 0 700 700": api.ErrFill, "fill 2 -1 0 0 0 0": api.ErrFill,
		"fill 2 3 200 100 700 800": api.ErrFill, "fill 2 3 100 3001 700 800": api.ErrFill, "fill 2 3 100 200 99 800": api.ErrFill, "fill 2 0 0 0 700 700": api.ErrFill,
		"level 1 9 0 0 0 0": api.ErrTank, "level 3 2 0 0 1000 1000": api.ErrLevel, "level 3 -1 0 0 1000 1000": api.ErrLevel,
		"level 3 1 0 0 1000 1000": api.ErrLevel, "level 3 0 5 4 1000 1000": api.ErrLevel, "level 3 0 0 1001 1000 1000": api.ErrLevel, "level 3 0 0 0 1000 2001": api.ErrLevel,
	} {
		expectError(t, d, line, e)
	}
	expect(t, d, "level 3 1 1000 1000 1020 1030", "ok")
	v.Levels[1] = api.Level{Tank: 3, Pressed: true, Sounding: at(1000), Density: span(1020, 1030)}
	expectVoyage(t, d, v)
	expect(t, d, "level 7 0 5 60 1000 1000", "ok")
	v.Levels[0] = api.Level{Tank: 7, Sounding: span(5, 60), Density: at(1000)}
	expectVoyage(t, d, v)
}

func TestCodeAndGiven(t *testing.T) {
	d := desk.New()
	expect(t, d, `code "# none\n\ncode a\nfact b 1 2\nrule c 3 4 when b < 2 must true\n"`, "ok")
	want := api.Voyage{Code: api.Code{Name: "a", Facts: []api.Fact{{Name: "b", Value: span(1, 2)}}, Rules: []api.Rule{
		{Name: "c", From: 3, To: 4, When: api.Cond{Terms: []api.Term{{Kind: api.TmLess, Name: "b", Num: 2}}}, Must: always()},
	}}}
	expectVoyage(t, d, want)
	for line, e := range map[string]api.Errno{
		`code ""`: api.ErrForm, `code "code A"`: api.ErrForm, `code "code a"`: api.ErrCode, `code "code a\nfact b 2 1"`: api.ErrFact, `code "code a\nfact b 1 2\nfact b 1 2"`: api.ErrName,
		`code "` + strings.Repeat("#", 8001) + `"`: api.ErrLong,
	} {
		expectError(t, d, line, e)
	}
	for i := range 8 {
		expect(t, d, "given -3 "+strconv.Itoa(i)+` "x`+strconv.Itoa(i)+`"`, "ok")
		want.Given = append(want.Given, api.Fact{Name: "x" + strconv.Itoa(i), Value: span(-3, i)})
	}
	expectVoyage(t, d, want)
	expect(t, d, `given 1 2 "x0"`, "ok")
	expect(t, d, `given 3 3 "x5"`, "ok")
	want.Given[0].Value, want.Given[5].Value = span(1, 2), at(3)
	expectVoyage(t, d, want)
	for line, e := range map[string]api.Errno{
		`given 1 2 "x8"`: api.ErrLong, `given 2 1 "x8"`: api.ErrFact, `given 2 1 "x0"`: api.ErrFact, `given 1 2 ""`: api.ErrFact, `given 1 2 "X"`: api.ErrFact,
		`given 1 2 "rule"`: api.ErrFact, `given 0 1000000000001 "x0"`: api.ErrFact, `given -1000000000001 0 "x0"`: api.ErrFact,
	} {
		expectError(t, d, line, e)
	}
	for _, name := range shipsNames {
		expectError(t, d, `given 1 2 "`+name+`"`, api.ErrFact)
		expectError(t, desk.New(), `given 1 2 "`+name+`"`, api.ErrFact)
	}
}

func TestDayAndMost(t *testing.T) {
	d := desk.New()
	for _, n := range []int{7, 100000, 0} {
		expect(t, d, "day "+strconv.Itoa(n), "ok")
		expectVoyage(t, d, api.Voyage{Day: n})
	}
	expect(t, d, "day 9", "ok")
	for _, n := range []int{900, 0, 7} {
		expect(t, d, "most "+strconv.Itoa(n), "ok")
		expectVoyage(t, d, api.Voyage{Day: 9, Most: n})
	}
	for line, e := range map[string]api.Errno{"day -1": api.ErrDay, "day 100001": api.ErrDay, "most -1": api.ErrArg, "most 901": api.ErrArg} {
		expectError(t, d, line, e)
	}
}

func TestLots(t *testing.T) {
	d := desk.New()
	expect(t, d, "accounts", "none")
	expect(t, d, "lot 3 9 9 10000", "ok")
	expect(t, d, "accounts", "3 0 0 0 0")
	for _, line := range []string{"lot 3 1 1 0", "lot 2 1 1 0", "lot 10000 1 1 0", "lot 4 0 1 0", "lot 4 10 1 0", "lot 4 1 0 0", "lot 4 1 10 0", "lot 4 1 1 -1", "lot 4 1 1 10001"} {
		expectError(t, d, line, api.ErrLot)
	}
	for i := range 39 {
		expect(t, d, "lot "+strconv.Itoa(4+i)+" 1 1 0", "ok")
	}
	expectError(t, d, "lot 9999 1 1 0", api.ErrLot)
}

func TestJobs(t *testing.T) {
	d := ready(t)
	expectError(t, d, "plan 7", api.ErrNone)
	expect(t, d, "job 5 0 9 0 1 3000 3000 1000 1000", "ok")
	expect(t, d, "plan 7", "handling 12", "stage 1")
	for line, e := range map[string]api.Errno{
		"job 5 0 9 2 1 3000 3000 1000 1000":      api.ErrWork,
		"job 5 0 9 -1 1 3000 3000 1000 1000":     api.ErrWork,
		"job -1 0 9 1 1 3000 3000 1000 1000":     api.ErrWork,
		"job 100001 0 9 1 1 3000 3000 1000 1000": api.ErrWork,
		"job 5 4 9 1 1 3000 3000 1000 1000":      api.ErrWork,
		"job 5 0 0 1 1 3000 3000 1000 1000":      api.ErrWork,
		"job 5 0 10001 0 3 3000 3000 1000 1000":  api.ErrWork,
		"job 5 0 9 0 3 3001 3000 1000 1000":      api.ErrHold,
		"job 5 0 9 0 1 3001 3000 99 1000":        api.ErrRange,
		"job 5 0 9 0 1 -1 3000 99 1000":          api.ErrArg,
		"job 5 0 9 0 1 3000 3000 99 1000":        api.ErrFill,
		"job 5 0 9 0 1 3000 3000 1000 2001":      api.ErrFill,
	} {
		expectError(t, d, line, e)
	}
	// A task need not fit: then no stage has it.
	for range 3 {
		expect(t, d, "job 100000 3 10000 1 2 0 40000 100 2000", "ok")
	}
	expectError(t, d, "job 5 0 9 0 1 3000 3000 1000 1000", api.ErrLong)
	expectError(t, d, "job 5 4 9 0 3 3001 3000 99 1000", api.ErrLong)
	expectError(t, d, "job 5 4 9 2 3 3001 3000 99 1000", api.ErrWork)
	expect(t, d, "clear", "ok")
	expectError(t, d, "plan 7", api.ErrNone)
	expect(t, d, "job 6 0 9 0 1 3000 3000 1000 1000", "ok")
	expect(t, d, "plan 7", "handling 13", "stage 1")
	// A desk needs no valid voyage for tasks, but a hold.
	d = deskBehind(t, holdLine(4), "job 5 0 9 0 4 3000 3000 1000 1000")
	expectError(t, d, "job 5 0 9 0 1 3000 3000 1000 1000", api.ErrHold)
	expectError(t, d, "plan 7", api.ErrShip)
}

func TestBerth(t *testing.T) {
	d := ready(t, "job 5 0 9 1 1 3000 3000 1000 1000")
	expectError(t, d, "times 7 0", api.ErrLate)
	expect(t, d, "open 10 14", "ok")
	expect(t, d, "open 20 1000000", "ok")
	expect(t, d, "times 7 0", "10 25")
	expect(t, d, "rain 12 21", "ok")
	expect(t, d, "times 7 0", "10 28")
	expect(t, d, "rain 1000 1001", "ok")
	expect(t, d, "times 7 995", "995 1005")
	expectError(t, d, "times 7 999992", api.ErrLate)
	expectError(t, d, "times 7 -1", api.ErrArg)
	expectError(t, d, "times 7 1000001", api.ErrArg)
	for _, word := range []string{"open", "rain"} {
		for _, rest := range []string{" 5 6", " 999999 1000001", " -1 5", " 1000000 1000000", " 1001 1002"} {
			expectError(t, d, word+rest, api.ErrBerth)
		}
		other := deskBehind(t)
		for i := range 60 {
			expect(t, other, word+" "+strconv.Itoa(2*i)+" "+strconv.Itoa(2*i+1), "ok")
		}
		expectError(t, other, word+" 500 600", api.ErrBerth)
	}
	expectError(t, deskBehind(t, "open 5 6"), "open 6 7", api.ErrBerth)
	expectError(t, deskBehind(t, "rain 5 6"), "rain 6 7", api.ErrBerth)
	expect(t, deskBehind(t, "rain 5 6"), "open 5 6", "ok")
}

func TestPassagesClocksAndForecasts(t *testing.T) {
	d := desk.New()
	expect(t, d, "burnt", "0 0")
	expect(t, d, "passage 2 3 10 12", "ok")
	expect(t, d, "passage 5 5 8 9", "ok")
	expect(t, d, "burnt", "60 81")
	expectError(t, d, "passage 3 2 8 9", api.ErrPassage)
	expectError(t, d, "passage 2 10001 8 9", api.ErrPassage)
	expectError(t, d, "passage 2 3 -1 9", api.ErrPassage)
	for range 18 {
		expect(t, d, "passage 0 0 0 0", "ok")
	}
	expectError(t, d, "passage 0 0 0 -1", api.ErrLong)
	expect(t, d, "clock 1 100 20 30", "ok")
	expect(t, d, "closed 1 119", "yes")
	expect(t, d, "closed 1 120", "maybe")
	expect(t, d, "closed 1 130", "no")
	expectError(t, d, "clock 9 100 20 30", api.ErrClock)
	expectError(t, d, "clock 1 -1 20 30", api.ErrClock)
	expectError(t, d, "clock 1 100 30 20", api.ErrClock)
	for range 19 {
		expect(t, d, "clock 8 1000000 0 0", "ok")
	}
	expectError(t, d, "clock 9 0 0 0", api.ErrLong)
	expect(t, d, "forecast 0 5 9 0 8", "ok")
	expect(t, d, "forecast 3 7 7 2 4", "ok")
	expect(t, d, "calm 3 7 7 4", "yes")
	expect(t, d, "calm 2 7 7 4", "maybe")
	expect(t, d, "calm 3 7 7 1", "no")
	expectError(t, d, "forecast 0 6 5 0 8", api.ErrForecast)
	expectError(t, d, "forecast -1 5 6 0 8", api.ErrForecast)
	expectError(t, d, "forecast 0 5 6 9 8", api.ErrForecast)
	for range 38 {
		expect(t, d, "forecast 10000 10000 10000 -5 5", "ok")
	}
	expectError(t, d, "forecast 0 6 5 0 8", api.ErrLong)
}

// TestNotRight: a command that is not right is refused, whatever it is.
func TestNotRight(t *testing.T) {
	d := ready(t)
	was := stateOf(d)
	refused := []string{"error 90"}
	for _, c := range []api.Command{
		{}, {Kind: 48}, {Kind: -1}, {Kind: 1 << 40}, {Kind: api.CmdDay}, {Kind: api.CmdDay, Args: []int{1, 2}}, {Kind: api.CmdDay, Args: []int{1}, Texts: []string{""}},
		{Kind: api.CmdDay, Args: []int{api.MaxWide + 1}}, {Kind: api.CmdDay, Args: []int{-api.MaxWide - 1}}, {Kind: api.CmdCode, Texts: []string{"code a\nfact b\t1 2"}},
		{Kind: api.CmdBooks, Args: []int{0}}, {Kind: api.CmdPour, Args: []int{1, 2, 3, 4}}, {Kind: api.CmdPair, Args: []int{1, 2, 3, 4, 5}}, {Kind: api.CmdRestart, Args: []int{1}},
		{Kind: api.CmdHold, Args: make([]int, 11), Texts: []string{"", ""}}, {Kind: api.CmdGiven, Args: []int{1, 2}, Texts: []string{"r\x00"}},
	} {
		if l := d.Do(c); !slices.Equal(l, refused) {
			t.Error(c, l)
		}
	}
	if !same(stateOf(d).voyage, was.voyage) {
		t.Error("something has changed")
	}
	// A right command that no line could have is done all the same.
	long := strings.Repeat("#\n", 3990) + "0 1 1\n1 2 2"
	if l := d.Do(api.Command{Kind: api.CmdTable, Args: []int{1}, Texts: []string{long}}); !slices.Equal(l, []string{"ok"}) {
		t.Error(l)
	}
	// Of a nil desk each command is refused.
	var none *desk.Desk
	for _, c := range []api.Command{{}, {Kind: api.CmdBooks}, {Kind: api.CmdDay, Args: []int{5}}} {
		if l := none.Do(c); !slices.Equal(l, refused) {
			t.Error(c, l)
		}
	}
	if v := none.Voyage(); !sameVoyage(v, api.Voyage{}) {
		t.Error(v)
	}
	for p := -1; p < 5; p++ {
		if b := none.Book(p); len(b.Entries) > 0 {
			t.Error(b)
		}
	}
}
