package desk

import (
	"slices"

	"ullage/api"
	"ullage/cond"
	"ullage/hold"
	"ullage/rule"
)

// unless returns an error, or OK if all is as it must be.
func unless(ok bool, e api.Errno) api.Errno {
	if ok {
		return api.OK
	}
	return e
}

// isShips reports whether a name is one of the ship's.
func isShips(name string) bool {
	switch name {
	case "tonnes", "draft", "trim", "fore", "aft", "gm", "heel", "flood", "area":
		return true
	}
	return false
}

// factAt is the index of a fact; -1 if there is none.
func factAt(l []api.Fact, name string) int {
	return slices.IndexFunc(l, func(f api.Fact) bool { return f.Name == name })
}

// checkGivenFact reports whether a fact is valid, and may be given.
func checkGivenFact(f api.Fact) api.Errno {
	// What always holds, holds for all facts but those that are not valid.
	always := api.Cond{Terms: []api.Term{{Kind: api.TmTrue}}}
	_, e := rule.Holds([]api.Fact{f}, always)
	return unless(e == api.OK && !isShips(f.Name), api.ErrFact)
}

// checkGiven reports whether facts may be given together.
func checkGiven(l []api.Fact) api.Errno {
	if len(l) > api.MaxGiven {
		return api.ErrLong
	}
	for i, f := range l {
		if checkGivenFact(f) != api.OK || factAt(l[:i], f.Name) >= 0 {
			return api.ErrFact
		}
	}
	return api.OK
}

// checkDay reports whether a day is one.
func checkDay(day int) api.Errno { return unless(isBetween(day, 0, api.MaxDay), api.ErrDay) }

// checkMost reports whether areas may count up to an angle.
func checkMost(most int) api.Errno { return unless(isBetween(most, 0, api.MaxAngle), api.ErrArg) }

// loadOf is what the ship of a voyage has.
func loadOf(v api.Voyage) (api.Load, api.Errno) {
	return hold.Load(v.Holds, v.Fills, v.Tanks, v.Levels)
}

// CheckVoyage reports whether a voyage is valid.
func CheckVoyage(v api.Voyage) api.Errno {
	if e := cond.CheckShip(v.Ship); e != api.OK {
		return e
	}
	if _, e := loadOf(v); e != api.OK {
		return e
	}
	if e := rule.Check(v.Code); e != api.OK {
		return e
	}
	if e := checkGiven(v.Given); e != api.OK {
		return e
	}
	if e := checkDay(v.Day); e != api.OK {
		return e
	}
	return checkMost(v.Most)
}

// valueOf is the value that a fact of the code of a valid voyage has. The ship's facts are those of her load.
func valueOf(v api.Voyage, f api.Fact, ships []api.Fact) (api.Range, api.Errno) {
	known := v.Given
	if isShips(f.Name) {
		known = ships
	}
	value := f.Value
	if i := factAt(known, f.Name); i >= 0 {
		value = known[i].Value
	} else if isShips(f.Name) {
		return api.Range{}, api.ErrNone
	}
	return value, unless(f.Value.Lo <= value.Lo && value.Hi <= f.Value.Hi, api.ErrFact)
}

// Facts returns what is known of the facts of a voyage's code.
func Facts(v api.Voyage) ([]api.Fact, api.Errno) {
	if e := CheckVoyage(v); e != api.OK {
		return nil, e
	}
	load, _ := loadOf(v)
	ships, e := cond.Facts(v.Ship, load, v.Most)
	if e != api.OK {
		return nil, e
	}
	var l []api.Fact
	for _, f := range v.Code.Facts {
		value, e := valueOf(v, f, ships)
		if e != api.OK {
			return nil, e
		}
		l = append(l, api.Fact{Name: f.Name, Value: value})
	}
	return l, api.OK
}

// Judge returns the answer whether all rules are kept.
func Judge(v api.Voyage) (int, api.Errno) {
	f, e := Facts(v)
	if e != api.OK {
		return 0, e
	}
	return rule.Kept(v.Code, v.Day, f)
}
