package desk

import (
	"slices"

	"ullage/api"
	"ullage/cond"
	"ullage/fix"
	"ullage/hold"
	"ullage/parcel"
	"ullage/plan"
	"ullage/rule"
	"ullage/voyage"
)

// pairAt is the range of two numbers, of which the first one has the index i.
func pairAt(n []int, i int) api.Range { return api.Range{Lo: n[i], Hi: n[i+1]} }

// tableOf reads the points of a table.
func tableOf(text string) api.Table {
	t, _, e := fix.Parse(text)
	need(e)
	return t
}

// flagOf reads a number that is 1 or 0; e is the error of another one.
func flagOf(n int, e api.Errno) bool {
	need(unless(isBetween(n, 0, 1), e))
	return n == 1
}

// The commands that set up the desk take its numbers and texts. Each one is done only where nothing is wrong: what is refused leaves by need, ahead of any change.

func (d *Desk) setLength(n []int, texts []string) {
	need(unless(isBetween(n[0], 1, api.MaxPlace), api.ErrShip))
	d.Ship.Length = n[0]
}

func (d *Desk) setTable(n []int, texts []string) {
	t := tableOf(texts[0])
	all := tablesOf(&d.Ship)
	need(unless(isBetween(n[0], 1, len(all)), api.ErrArg))
	*all[n[0]-1] = t
}

func (d *Desk) addCross(n []int, texts []string) {
	c := api.Cross{Tonnes: n[0], Arms: tableOf(texts[0])}
	least := 0
	if had := len(d.Ship.Cross); had > 0 {
		least = d.Ship.Cross[had-1].Tonnes + 1
	}
	need(unless(len(d.Ship.Cross) < api.MaxCross && isBetween(c.Tonnes, least, api.MaxX), api.ErrShip))
	d.Ship.Cross = append(d.Ship.Cross, c)
}

func (d *Desk) setLight(n []int, texts []string) {
	w := api.Weight{Mass: pairAt(n, 0), Along: pairAt(n, 2), High: pairAt(n, 4)}
	need(cond.CheckWeight(w))
	d.Ship.Light = w
}

func (d *Desk) addHold(n []int, texts []string) {
	h := api.Hold{
		Id: n[0], Along: pairAt(n, 1),
		Volume: tableOf(texts[0]), Moment: tableOf(texts[1]), Height: tableOf(texts[2]),
		Trimmed: pairAt(n, 3), Untrimmed: pairAt(n, 5), Volume0: pairAt(n, 7), Height0: pairAt(n, 9),
	}
	need(unless(len(d.Holds) < api.MaxHolds, api.ErrLong))
	need(hold.CheckHold(h))
	need(unless(holdAt(d.Holds, h.Id) < 0, api.ErrHold))
	d.Holds = append(d.Holds, h)
	d.Fills = append(d.Fills, api.Fill{Hold: h.Id, State: api.Empty})
}

// tankAt is the index of a tank; -1 if there is none.
func tankAt(l []api.Tank, id int) int {
	return slices.IndexFunc(l, func(t api.Tank) bool { return t.Id == id })
}

func (d *Desk) addTank(n []int, texts []string) {
	t := api.Tank{Id: n[0], Along: pairAt(n, 1), Volume: tableOf(texts[0]), Surface: tableOf(texts[1]), Height: tableOf(texts[2])}
	need(unless(len(d.Tanks) < api.MaxTanks, api.ErrLong))
	need(hold.CheckTank(t))
	need(unless(tankAt(d.Tanks, t.Id) < 0, api.ErrTank))
	first := t.Volume.Points[0].X
	d.Tanks = append(d.Tanks, t)
	d.Levels = append(d.Levels, api.Level{Tank: t.Id, Sounding: api.Range{Lo: first, Hi: first}, Density: api.Range{Lo: 1000, Hi: 1000}})
}

func (d *Desk) setCode(n []int, texts []string) {
	c, _, e := rule.Parse(texts[0])
	need(e)
	d.Code = c
}

func (d *Desk) setGiven(n []int, texts []string) {
	f := api.Fact{Name: texts[0], Value: pairAt(n, 0)}
	need(checkGivenFact(f))
	if i := factAt(d.Given, f.Name); i >= 0 {
		d.Given[i] = f
		return
	}
	need(unless(len(d.Given) < api.MaxGiven, api.ErrLong))
	d.Given = append(d.Given, f)
}

func (d *Desk) setDay(n []int, texts []string) {
	need(checkDay(n[0]))
	d.Day = n[0]
}

func (d *Desk) setMost(n []int, texts []string) {
	need(checkMost(n[0]))
	d.Most = n[0]
}

func (d *Desk) setFill(n []int, texts []string) {
	i := holdAt(d.Holds, n[0])
	need(unless(i >= 0, api.ErrHold))
	f := api.Fill{Hold: n[0], State: n[1], Ullage: pairAt(n, 2), Density: pairAt(n, 4)}
	need(hold.CheckFill(d.Holds[i], f))
	d.Fills[i] = f
}

func (d *Desk) setLevel(n []int, texts []string) {
	i := tankAt(d.Tanks, n[0])
	need(unless(i >= 0, api.ErrTank))
	l := api.Level{Tank: n[0], Pressed: flagOf(n[1], api.ErrLevel), Sounding: pairAt(n, 2), Density: pairAt(n, 4)}
	need(hold.CheckLevel(d.Tanks[i], l))
	d.Levels[i] = l
}

func (d *Desk) addLot(n []int, texts []string) {
	l := append(d.lots, api.Lot{Id: n[0], Owner: n[1], Grade: n[2], Wet: n[3]})
	need(parcel.CheckLots(l))
	d.lots = l
}

// pourAt is the pour of five numbers, of which the first one has the index i.
func pourAt(n []int, i int) api.Pour {
	return api.Pour{Hold: n[i], Mass: pairAt(n, i+1), Density: pairAt(n, i+3)}
}

func (d *Desk) addTask(n []int, texts []string) {
	job := api.Job{Cost: n[0], Spout: n[1], Minutes: n[2], Dry: flagOf(n[3], api.ErrWork)}
	t := api.Task{Job: job, Pour: pourAt(n, 4)}
	need(unless(len(d.tasks) < api.MaxTasks, api.ErrLong))
	need(checkTasks(d.Holds, []api.Task{t}, 0))
	d.tasks = append(d.tasks, t)
}

// addSpan adds a span to those of a berth that find finds.
func (d *Desk) addSpan(find func(b *api.Berth) *[]api.Span, n []int) {
	b := d.berth
	l := find(&b)
	*l = append(*l, api.Span{From: n[0], To: n[1]})
	need(plan.CheckBerth(b))
	d.berth = b
}

func (d *Desk) addOpen(n []int, texts []string) {
	d.addSpan(func(b *api.Berth) *[]api.Span { return &b.Open }, n)
}

func (d *Desk) addRain(n []int, texts []string) {
	d.addSpan(func(b *api.Berth) *[]api.Span { return &b.Rain }, n)
}

func (d *Desk) addPassage(n []int, texts []string) {
	l := append(d.passages, api.Passage{Hours: pairAt(n, 0), Burn: pairAt(n, 2)})
	need(voyage.Check(l))
	d.passages = l
}

func (d *Desk) addClock(n []int, texts []string) {
	l := append(d.clocks, api.Clock{Hold: n[0], From: n[1], For: pairAt(n, 2)})
	need(voyage.CheckClocks(l))
	d.clocks = l
}

func (d *Desk) addForecast(n []int, texts []string) {
	l := append(d.forecasts, api.Forecast{Issued: n[0], From: n[1], To: n[2], Value: pairAt(n, 3)})
	need(voyage.CheckForecasts(l))
	d.forecasts = l
}

func (d *Desk) clearTasks(n []int, texts []string) { d.tasks = nil }
