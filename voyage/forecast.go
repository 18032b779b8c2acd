package voyage

import (
	"cmp"

	"ullage/api"
	"ullage/fix"
)

// isHour reports whether an hour may be asked for.
func isHour(hour int) bool { return isBetween(hour, 0, api.MaxHours) }

// isForecast reports whether a forecast is valid.
func isForecast(f api.Forecast) bool {
	return isHour(f.Issued) && isHour(f.From) && isHour(f.To) && f.From <= f.To && fix.CheckRange(f.Value) == api.OK
}

// CheckForecasts reports whether forecasts are valid.
func CheckForecasts(l []api.Forecast) api.Errno {
	return checkList(l, api.MaxForecasts, isForecast, api.ErrForecast)
}

// outlook has valid forecasts, as they are known at an hour.
type outlook struct {
	list  []api.Forecast
	known int
}

// of is what is known of an hour.
func (o outlook) of(hour int) (api.Range, api.Errno) {
	all, found := api.Range{Lo: -api.MaxWide, Hi: api.MaxWide}, false
	for _, f := range o.list {
		if f.Issued > o.known || !isBetween(hour, f.From, f.To) {
			continue
		}
		r, e := fix.Meet(all, f.Value)
		if e != api.OK {
			return api.Range{}, api.ErrForecast
		}
		all, found = r, true
	}
	if !found {
		return api.Range{}, api.ErrNone
	}
	return all, api.OK
}

// calm answers whether the value of an hour is at most so much.
func (o outlook) calm(hour, most int) int {
	r, e := o.of(hour)
	switch {
	case e == api.OK && r.Hi <= most:
		return api.Yes
	case e == api.OK && r.Lo > most:
		return api.No
	}
	return api.Maybe
}

// Known is what is known, from an hour on, of the value of an hour.
func Known(l []api.Forecast, known, hour int) (api.Range, api.Errno) {
	if e := cmp.Or(CheckForecasts(l), unless(isHour(known) && isHour(hour), api.ErrArg)); e != api.OK {
		return api.Range{}, e
	}
	return outlook{l, known}.of(hour)
}

// checkHours checks forecasts, and the hours that are asked for.
func checkHours(l []api.Forecast, known, from, to int) api.Errno {
	ok := isHour(known) && isHour(from) && isHour(to) && from <= to
	return cmp.Or(CheckForecasts(l), unless(ok, api.ErrArg))
}

// Calm answers whether the value is at most so much in all hours.
func Calm(l []api.Forecast, known, from, to, most int) (int, api.Errno) {
	if e := checkHours(l, known, from, to); e != api.OK {
		return 0, e
	}
	o := outlook{l, known}
	answer := api.Yes
	for hour := from; hour <= to; hour++ {
		switch o.calm(hour, most) {
		case api.No:
			return api.No, api.OK
		case api.Maybe:
			answer = api.Maybe
		}
	}
	return answer, api.OK
}

// Dry returns the first hour of so many hours in which the value surely is at most so much.
func Dry(l []api.Forecast, known, from, to, most, many int) (int, api.Errno) {
	if e := cmp.Or(checkHours(l, known, from, to), unless(isBetween(many, 1, api.MaxHours), api.ErrArg)); e != api.OK {
		return 0, e
	}
	o := outlook{l, known}
	run := 0
	for hour := from; hour <= to; hour++ {
		run++
		if o.calm(hour, most) != api.Yes {
			run = 0
		}
		if run == many {
			return hour - many + 1, api.OK
		}
	}
	return 0, api.ErrNone
}
