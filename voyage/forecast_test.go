package voyage_test

import (
	"math"
	"math/rand"
	"slices"
	"testing"

	"ullage/api"
	"ullage/voyage"
)

// exampleF has the forecasts of the chapter's examples.
func exampleF() []api.Forecast {
	return []api.Forecast{forecast(0, 5, 9, 0, 8), forecast(3, 7, 7, 2, 4)}
}

// vaguest are as many forecasts as there may be, of all hours and all values.
func vaguest() []api.Forecast {
	return slices.Repeat([]api.Forecast{forecast(api.MaxHours, 0, api.MaxHours, -api.MaxWide, api.MaxWide)}, api.MaxForecasts)
}

func TestCheckForecasts(t *testing.T) {
	for _, x := range []struct {
		l []api.Forecast
		e api.Errno
	}{
		{nil, api.OK},
		{[]api.Forecast{{}}, api.OK},
		{exampleF(), api.OK},
		{vaguest(), api.OK},
		{append(vaguest(), forecast(0, 0, 0, 0, 0)), api.ErrLong},
		{append(vaguest(), forecast(-1, 0, 0, 0, 0)), api.ErrLong},
		{[]api.Forecast{forecast(-1, 0, 0, 0, 0)}, api.ErrForecast},
		{[]api.Forecast{forecast(api.MaxHours+1, 0, 0, 0, 0)}, api.ErrForecast},
		{[]api.Forecast{forecast(0, -1, 0, 0, 0)}, api.ErrForecast},
		{[]api.Forecast{forecast(0, 3, 2, 0, 0)}, api.ErrForecast},
		{[]api.Forecast{forecast(0, 0, api.MaxHours+1, 0, 0)}, api.ErrForecast},
		{[]api.Forecast{forecast(0, math.MinInt, math.MaxInt, 0, 0)}, api.ErrForecast},
		{[]api.Forecast{forecast(0, 0, 0, 1, 0)}, api.ErrForecast},
		{[]api.Forecast{forecast(0, 0, 0, 0, api.MaxWide+1)}, api.ErrForecast},
		{[]api.Forecast{forecast(0, 0, 0, 0, 0), forecast(0, 0, 0, -api.MaxWide-1, 0)}, api.ErrForecast},
		// One that is issued behind the hours of which it tells is valid.
		{[]api.Forecast{forecast(9, 2, 3, 0, 0)}, api.OK},
	} {
		if e := voyage.CheckForecasts(x.l); e != x.e {
			t.Errorf("CheckForecasts of %v: %d, want %d", x.l, e, x.e)
		}
		if n, e := voyage.Calm(x.l, 0, 0, api.MaxHours, math.MinInt); e != x.e || e != api.OK && n != 0 {
			t.Errorf("Calm of %v: %d %d, want %d", x.l, n, e, x.e)
		}
	}
}

func expectKnown(t *testing.T, l []api.Forecast, known, hour int, want api.Range, e api.Errno) {
	t.Helper()
	if got, f := voyage.Known(l, known, hour); got != want || f != e {
		t.Errorf("Known of %v, %d and %d: %v %d, want %v %d", l, known, hour, got, f, want, e)
	}
}

func TestKnown(t *testing.T) {
	l := exampleF()
	expectKnown(t, l, 2, 7, span(0, 8), api.OK)
	expectKnown(t, l, 3, 7, span(2, 4), api.OK)
	expectKnown(t, l, api.MaxHours, 7, span(2, 4), api.OK)
	for _, hour := range []int{5, 6, 8, 9} {
		expectKnown(t, l, 3, hour, span(0, 8), api.OK)
	}
	for _, hour := range []int{0, 4, 10, api.MaxHours} {
		expectKnown(t, l, 3, hour, api.Range{}, api.ErrNone)
	}
	// Forecasts that only together leave a number, or none.
	expectKnown(t, append(l, forecast(4, 0, 8, 4, 20)), 4, 7, one(4), api.OK)
	against := append(l, forecast(4, 0, 7, 5, 20))
	expectKnown(t, against, 3, 7, span(2, 4), api.OK)
	expectKnown(t, against, 4, 7, api.Range{}, api.ErrForecast)
	expectKnown(t, against, 4, 8, span(0, 8), api.OK)
	expectKnown(t, against, 4, 6, span(5, 8), api.OK)
	expectKnown(t, append(against, forecast(4, 0, 9, 0, 20)), 4, 7, api.Range{}, api.ErrForecast)
	expectKnown(t, vaguest(), api.MaxHours, api.MaxHours, around(api.MaxWide), api.OK)
	expectKnown(t, vaguest(), api.MaxHours-1, api.MaxHours, api.Range{}, api.ErrNone)
	expectKnown(t, nil, 0, 0, api.Range{}, api.ErrNone)
	for _, odd := range []int{-1, api.MaxHours + 1, math.MinInt, math.MaxInt} {
		expectKnown(t, against, odd, 7, api.Range{}, api.ErrArg)
		expectKnown(t, against, 4, odd, api.Range{}, api.ErrArg)
	}
	expectKnown(t, append(l, forecast(0, 1, 0, 0, 0)), -1, -1, api.Range{}, api.ErrForecast)
	expectKnown(t, append(vaguest(), l...), -1, -1, api.Range{}, api.ErrLong)
}

func expectCalm(t *testing.T, l []api.Forecast, known, from, to, most, want int, e api.Errno) {
	t.Helper()
	if got, f := voyage.Calm(l, known, from, to, most); got != want || f != e {
		t.Errorf("Calm of %v, %d, %d to %d, at most %d: %d %d, want %d %d", l, known, from, to, most, got, f, want, e)
	}
}

func TestCalm(t *testing.T) {
	l := exampleF()
	expectCalm(t, l, 3, 7, 7, 4, api.Yes, api.OK)
	expectCalm(t, l, 3, 5, 7, 4, api.Maybe, api.OK)
	expectCalm(t, l, 2, 7, 7, 4, api.Maybe, api.OK)
	expectCalm(t, l, 3, 7, 7, 3, api.Maybe, api.OK)
	expectCalm(t, l, 3, 7, 7, 2, api.Maybe, api.OK)
	expectCalm(t, l, 3, 7, 7, 1, api.No, api.OK)
	expectCalm(t, l, 3, 5, 9, 8, api.Yes, api.OK)
	expectCalm(t, l, 3, 5, 9, 1, api.No, api.OK)
	// Hours of which nothing is known are not calm for sure, but one that is not calm decides.
	expectCalm(t, l, 3, 4, 9, 8, api.Maybe, api.OK)
	expectCalm(t, l, 3, 5, 10, 8, api.Maybe, api.OK)
	expectCalm(t, l, 3, 0, 20, 1, api.No, api.OK)
	expectCalm(t, nil, 0, 0, 0, math.MaxInt, api.Maybe, api.OK)
	expectCalm(t, l, 3, 5, 9, math.MaxInt, api.Yes, api.OK)
	expectCalm(t, l, 3, 5, 9, math.MinInt, api.No, api.OK)
	// So it is where forecasts contradict each other.
	against := append(l, forecast(0, 8, 8, 9, 9))
	expectCalm(t, against, 3, 8, 8, 20, api.Maybe, api.OK)
	expectCalm(t, against, 3, 8, 8, 0, api.Maybe, api.OK)
	expectCalm(t, against, 3, 5, 9, 1, api.No, api.OK)
	expectCalm(t, vaguest(), api.MaxHours, 0, api.MaxHours, api.MaxWide, api.Yes, api.OK)
	for _, odd := range []int{-1, api.MaxHours + 1, math.MinInt, math.MaxInt} {
		expectCalm(t, l, odd, 5, 9, 8, 0, api.ErrArg)
		expectCalm(t, l, 3, odd, 9, 8, 0, api.ErrArg)
		expectCalm(t, l, 3, 5, odd, 8, 0, api.ErrArg)
	}
	expectCalm(t, l, 3, 6, 5, 8, 0, api.ErrArg)
	expectCalm(t, append(l, forecast(0, 1, 0, 0, 0)), 3, 6, 5, 8, 0, api.ErrForecast)
}

func expectDry(t *testing.T, l []api.Forecast, known, from, to, most, many, want int, e api.Errno) {
	t.Helper()
	if got, f := voyage.Dry(l, known, from, to, most, many); got != want || f != e {
		t.Errorf("Dry of %v, %d, %d to %d, at most %d, for %d: %d %d, want %d %d", l, known, from, to, most, many, got, f, want, e)
	}
}

func TestDry(t *testing.T) {
	l := exampleF()
	expectDry(t, l, 3, 0, 9, 8, 3, 5, api.OK)
	expectDry(t, l, 3, 0, 9, 8, 5, 5, api.OK)
	expectDry(t, l, 3, 0, 9, 8, 6, 0, api.ErrNone)
	expectDry(t, l, 3, 0, 20, 8, 6, 0, api.ErrNone)
	expectDry(t, l, 3, 7, 9, 8, 3, 7, api.OK)
	expectDry(t, l, 3, 7, 8, 8, 3, 0, api.ErrNone)
	expectDry(t, l, 3, 0, 9, 4, 1, 7, api.OK)
	expectDry(t, l, 2, 0, 9, 4, 1, 0, api.ErrNone)
	expectDry(t, l, 3, 0, 9, 4, 2, 0, api.ErrNone)
	expectDry(t, l, 3, 9, 9, 8, 1, 9, api.OK)
	expectDry(t, l, 3, 9, 9, 8, 2, 0, api.ErrNone)
	// A run that is broken begins again behind the hour that breaks it.
	broken := []api.Forecast{forecast(0, 0, 20, 0, 9), forecast(0, 0, 3, 0, 5), forecast(0, 5, 6, 0, 5), forecast(0, 8, 11, 0, 5)}
	expectDry(t, broken, 0, 0, 20, 5, 4, 0, api.OK)
	expectDry(t, broken, 0, 1, 20, 5, 4, 8, api.OK)
	expectDry(t, broken, 0, 1, 20, 5, 2, 1, api.OK)
	expectDry(t, broken, 0, 3, 20, 5, 2, 5, api.OK)
	expectDry(t, vaguest(), api.MaxHours, 0, api.MaxHours, api.MaxWide, api.MaxHours, 0, api.OK)
	expectDry(t, vaguest(), api.MaxHours, 1, api.MaxHours, api.MaxWide, api.MaxHours, 1, api.OK)
	expectDry(t, vaguest(), api.MaxHours, 0, api.MaxHours, 0, 1, 0, api.ErrNone)
	expectDry(t, l, 3, 0, 9, 8, 0, 0, api.ErrArg)
	expectDry(t, l, 3, 0, 9, 8, -1, 0, api.ErrArg)
	expectDry(t, l, 3, 0, 9, 8, api.MaxHours+1, 0, api.ErrArg)
	expectDry(t, l, 3, 0, 9, 8, math.MinInt, 0, api.ErrArg)
	expectDry(t, l, -1, 0, 9, 8, 1, 0, api.ErrArg)
	expectDry(t, l, 3, 9, 8, 8, 1, 0, api.ErrArg)
	expectDry(t, l, 3, 0, api.MaxHours+1, 8, 1, 0, api.ErrArg)
	expectDry(t, append(vaguest(), l...), 3, 9, 8, 8, 0, 0, api.ErrLong)
}

// someForecasts are few, of few hours and values, which may contradict each other.
func someForecasts(r *rand.Rand) []api.Forecast {
	var l []api.Forecast
	for range r.Intn(5) {
		hours := someRange(r, span(0, 9))
		l = append(l, api.Forecast{Issued: r.Intn(5), From: hours.Lo, To: hours.Hi, Value: someRange(r, around(9))})
	}
	return l
}

func TestForecastsPlainly(t *testing.T) {
	r := rand.New(rand.NewSource(76))
	answers := map[int]int{}
	for range 3000 {
		l, known := someForecasts(r), r.Intn(6)
		hour := r.Intn(10)
		want, e := knownAt(l, known, hour)
		expectKnown(t, l, known, hour, want, e)
		hours, most := someRange(r, span(0, 10)), r.Intn(21)-10
		answer := calmIn(l, known, hours, most)
		answers[answer]++
		expectCalm(t, l, known, hours.Lo, hours.Hi, most, answer, api.OK)
		many := 1 + r.Intn(4)
		first, e := dryIn(l, known, hours, most, many)
		if e == api.OK {
			answers[10]++
		}
		expectDry(t, l, known, hours.Lo, hours.Hi, most, many, first, e)
	}
	for _, answer := range []int{api.Yes, api.No, api.Maybe, 10} {
		if answers[answer] < 100 {
			t.Error("too few cases:", answer, answers[answer])
		}
	}
}
