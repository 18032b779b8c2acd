package desk_test

import (
	"strconv"
	"testing"

	"ullage/api"
	"ullage/desk"
)

func TestFactsAndJudge(t *testing.T) {
	d := ready(t)
	expect(t, d, "facts", "draft 20000 20000", "rain 0 50")
	expect(t, d, "judge", "deep yes yes", "wet no yes")
	expect(t, d, "pour 1 3000 3000 1000 1000", "stage 3")
	expect(t, d, `given -1 60 "wind"`, "ok")
	expect(t, d, "facts", "draft 22000 24000", "rain 0 50")
	expect(t, d, "day 20", "ok")
	expect(t, d, "judge", "deep no yes", "wet yes maybe")
	expect(t, d, `given 20 50 "rain"`, "ok")
	expect(t, d, "facts", "draft 22000 24000", "rain 20 50")
	expect(t, d, "judge", "deep no yes", "wet yes no")
	expect(t, d, `code "code a\nfact gm -9 9000\nfact rain 0 50\nrule x 0 99 when rain <= 30 must gm > 0"`, "ok")
	expect(t, d, "judge", "x maybe yes")
	expect(t, d, `code "code a\nfact trim -9 9"`, "ok")
	expect(t, d, "facts", "trim 0 0")
	expect(t, d, "judge", "none")
	expect(t, d, `code "code a\nfact rain 21 50"`, "ok")
	for _, line := range []string{"facts", "judge"} {
		expectError(t, d, line, api.ErrFact)
		expectError(t, desk.New(), line, api.ErrShip)
	}
}

// TestMarginAndProve: the example's ship at 20 tonnes, whose margin is the righting arm: 8000 at 80 degrees, less what the height of the centre takes.
func TestMarginAndProve(t *testing.T) {
	d := ready(t)
	expect(t, d, "margin", "0 0 0", "800 5300 5300")
	// Twice the area up to 40 degrees is 400 times 2650.
	expect(t, d, "prove 1060000", "cert 2", "0 0", "400 2650")
	expect(t, d, "prove -1000000000000", "cert 2", "0 0", "400 2650")
	expectError(t, d, "prove 1060001", api.ErrShort)
	expectError(t, d, "prove 1000000000001", api.ErrArg)
	expectError(t, d, "prove -1000000000001", api.ErrArg)
	expect(t, d, "most 0", "ok")
	expectError(t, d, "prove 0", api.ErrNone)
	expect(t, d, "most 900", "ok")
	expect(t, d, "prove 0", "cert 2", "0 0", "500 3312")
	expect(t, d, `cross 200 "0 0 0"`, "ok")
	expect(t, d, `table 7 "0 0 0"`, "ok")
	expect(t, d, "margin", "0 0 0")
	expect(t, d, `table 6 "500 0 0"`, "ok")
	expectError(t, d, "margin", api.ErrShip)
	expectError(t, d, "prove 0", api.ErrShip)
	// Whatever else is wrong with the voyage comes first.
	for _, line := range []string{"margin", "prove 2000000000000"} {
		expectError(t, deskBehind(t, voyageScript()[:11]...), line, api.ErrName)
		expectError(t, desk.New(), line, api.ErrShip)
	}
	// The ship's tonnes are beyond her curves.
	d = ready(t, "light 200000 200000 0 0 3000 3000")
	expectError(t, d, "margin", api.ErrOut)
	expectError(t, d, "prove 0", api.ErrOut)
}

func TestWhy(t *testing.T) {
	d := ready(t)
	expect(t, d, "why 1 13000 13000 1000 1000", "1 deep")
	expectError(t, d, "why 1 3000 3000 1000 1000", api.ErrNone)
	expectError(t, d, "why 3 3000 3000 1000 1000", api.ErrHold)
	expectError(t, desk.New(), "why 3 3000 3000 1000 1000", api.ErrShip)
	expect(t, d, "day 20", "ok")
	expect(t, d, "why 1 13000 13000 1000 1000", "0 wet")
}

func TestPlans(t *testing.T) {
	d := ready(t, "job 5 0 60 0 1 3000 3000 1000 1000", "job 7 1 30 0 2 4000 4000 1000 1000")
	expect(t, d, "plan 10", "handling 32", "stage 1", "stage 2")
	expectError(t, d, "blocked 10", api.ErrNone)
	expect(t, d, "open 0 1000", "ok")
	expect(t, d, "times 10 3", "3 63", "63 93")
	// By one spout both are handled for less.
	expect(t, d, "clear", "ok")
	expect(t, d, "job 5 0 60 0 1 3000 3000 1000 1000", "ok")
	expect(t, d, "job 7 0 30 0 2 4000 4000 1000 1000", "ok")
	expect(t, d, "plan 10", "handling 22", "stage 1", "stage 2")
	expect(t, d, "times 10 3", "3 63", "63 93")
	expectError(t, d, "plan 100001", api.ErrWork)
	expectError(t, d, "blocked -1", api.ErrWork)
	expectError(t, d, "times -1 3", api.ErrWork)
	// There is no order of all three.
	expect(t, d, "job 1 2 20 1 2 5000 5000 1000 1000", "ok")
	expect(t, d, "blocked 10", "2 3")
	expectError(t, d, "plan 10", api.ErrNone)
	expectError(t, d, "times 10 3", api.ErrNone)
	expect(t, d, "day 20", "ok")
	expect(t, d, "blocked 10", "0 1")
	expect(t, d, "clear", "ok")
	for _, line := range []string{"plan 10", "blocked 10", "times 10 3"} {
		expectError(t, d, line, api.ErrNone)
		expectError(t, desk.New(), line, api.ErrShip)
	}
}

func TestVoyageQueries(t *testing.T) {
	d := deskBehind(t, "passage 2 3 10 12", "passage 5 5 8 9", "clock 1 100 20 30", "clock 1 110 0 9", "forecast 0 5 9 0 8", "forecast 3 7 7 2 4")
	expect(t, d, "burnt", "60 81")
	expect(t, d, "enough 70 75 0", "maybe")
	expect(t, d, "enough 81 90 0", "yes")
	expect(t, d, "enough 60 64 5", "no")
	expectError(t, d, "enough 75 70 0", api.ErrLevels)
	expectError(t, d, "enough 70 75 -1", api.ErrArg)
	expect(t, d, "closed 1 119", "yes")
	expect(t, d, "closed 1 120", "maybe")
	expect(t, d, "closed 1 130", "no")
	expect(t, d, "closed 0 119", "no")
	expectError(t, d, "closed 9 119", api.ErrArg)
	expectError(t, d, "closed 1 -1", api.ErrArg)
	expect(t, d, "calm 3 7 7 4", "yes")
	expect(t, d, "calm 3 5 7 4", "maybe")
	expect(t, d, "calm 3 5 7 1", "no")
	expectError(t, d, "calm 3 7 5 4", api.ErrArg)
	expectError(t, d, "calm -1 5 7 4", api.ErrArg)
}

func TestBookQueries(t *testing.T) {
	d := desk.New()
	for p := range 4 {
		expect(t, d, "ledger "+strconv.Itoa(p), "none")
		expect(t, d, "disputes "+strconv.Itoa(p), "none")
		expectError(t, d, "agreed "+strconv.Itoa(p)+" 7", api.ErrNone)
	}
	expect(t, d, "books", "entries 0", "entries 0", "entries 0", "entries 0")
	for _, line := range []string{"note 1 1 7 100 120 5 0 0", "note 2 2 7 130 140 6 0 0", "note 2 3 8 1 2 6 0 0", "offer 1 3", "offer 2 3", "deliver 0", "deliver 0", "deliver 0"} {
		d.Do(command(t, line))
	}
	expect(t, d, "books", "entries 0", "entries 1", "entries 2", "entries 3")
	expect(t, d, "ledger 3", "1 7 1 0 1 0 100 120", "2 7 2 0 2 0 130 140", "3 8 2 1 2 1 1 2")
	expect(t, d, "disputes 3", "7 1 0 2 0")
	expectError(t, d, "agreed 3 7", api.ErrDispute)
	expect(t, d, "agreed 3 8", "1 2")
	expect(t, d, "agreed 1 7", "100 120")
	expectError(t, d, "agreed 3 9", api.ErrNone)
	expect(t, d, "note 2 5 0 110 135 9 2 0", "entry 2 2")
	expect(t, d, "offer 2 3", "messages 6")
	expect(t, d, "deliver -1", "messages 6")
	expect(t, d, "ledger 3", "1 7 1 0 1 0 100 120", "2 7 2 0 2 2 110 135", "3 8 2 1 2 1 1 2")
	expect(t, d, "disputes 3", "none")
	expect(t, d, "agreed 3 7", "110 120")
	for _, p := range []string{"-1", "4"} {
		expectError(t, d, "ledger "+p, api.ErrArg)
		expectError(t, d, "disputes "+p, api.ErrArg)
		expectError(t, d, "agreed "+p+" 7", api.ErrArg)
	}
}
