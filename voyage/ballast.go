package voyage

import (
	"cmp"
	"slices"

	"ullage/api"
	"ullage/fix"
)

// isLevel reports whether a tank may have such a mass.
func isLevel(r api.Range) bool { return isUpTo(r, api.MaxLevel) }

// checkMasses reports whether masses of tanks are valid.
func checkMasses(m []api.Range) api.Errno {
	return checkList(m, api.MaxBallast, isLevel, api.ErrLevels)
}

// CheckSteps reports whether masses of tanks, and steps, are valid.
func CheckSteps(m []api.Range, l []api.Step) api.Errno {
	isStep := func(s api.Step) bool { return isBetween(s.Tank, 0, len(m)-1) && isLevel(s.To) }
	return cmp.Or(checkMasses(m), checkList(l, api.MaxSteps, isStep, api.ErrStep))
}

// tanks has the masses of tanks; those behind the last tank are 0.
type tanks [api.MaxBallast]api.Range

// tanksOf has valid masses.
func tanksOf(m []api.Range) tanks {
	var t tanks
	copy(t[:], m)
	return t
}

// behind has the masses behind a step.
func (t tanks) behind(s api.Step) tanks {
	t[s.Tank] = s.To
	return t
}

// during has the masses that may be while a step is done.
func (t tanks) during(s api.Step) tanks {
	r, _ := fix.Hull(t[s.Tank], s.To)
	t[s.Tank] = r
	return t
}

// follow returns what look sees of the masses at each step, which it is handed with the masses ahead of it.
func follow(m []api.Range, l []api.Step, look func(t tanks, s api.Step) tanks) ([][]api.Range, api.Errno) {
	if e := CheckSteps(m, l); e != api.OK {
		return nil, e
	}
	var all [][]api.Range
	now := tanksOf(m)
	for _, s := range l {
		seen := look(now, s)
		all = append(all, slices.Clone(seen[:len(m)]))
		now = now.behind(s)
	}
	return all, api.OK
}

// After returns the masses behind each step.
func After(m []api.Range, l []api.Step) ([][]api.Range, api.Errno) {
	return follow(m, l, tanks.behind)
}

// During returns the masses that may be while each step is done.
func During(m []api.Range, l []api.Step) ([][]api.Range, api.Errno) {
	return follow(m, l, tanks.during)
}

// checkArms reports whether arms are such for masses.
func checkArms(m []api.Range, arms []int) api.Errno {
	tooFar := func(arm int) bool { return !isBetween(arm, -api.MaxArm, api.MaxArm) }
	return unless(len(arms) == len(m) && !slices.ContainsFunc(arms, tooFar), api.ErrArg)
}

// moment is the range of the moment of masses, by the arms of their tanks. The limits of both keep it below those of ranges.
func (t tanks) moment(arms []int) api.Range {
	var all api.Range
	for i, arm := range arms {
		r, _ := fix.Mul(t[i], single(arm))
		all, _ = fix.Add(all, r)
	}
	return all
}

// Moment is the range of the moment of masses.
func Moment(m []api.Range, arms []int) (api.Range, api.Errno) {
	if e := cmp.Or(checkMasses(m), checkArms(m, arms)); e != api.OK {
		return api.Range{}, e
	}
	return tanksOf(m).moment(arms), api.OK
}

// poise has the arms of tanks, and the limit of their moment on both sides.
type poise struct {
	arms  []int
	limit int
}

// keeps reports whether the moment surely stays within the limit while a step is done.
func (p poise) keeps(t tanks, s api.Step) bool {
	r := t.during(s).moment(p.arms)
	return -p.limit <= r.Lo && r.Hi <= p.limit
}

// checkPoise checks what Tilts and Order have as arguments.
func checkPoise(m []api.Range, l []api.Step, arms []int, limit int) api.Errno {
	inLimit := unless(isBetween(limit, 0, api.MaxWide), api.ErrArg)
	return cmp.Or(CheckSteps(m, l), checkArms(m, arms), inLimit)
}

// Tilts returns the first step at some instant of which the moment may be beyond a limit; -1 if there is none.
func Tilts(m []api.Range, l []api.Step, arms []int, limit int) (int, api.Errno) {
	if e := checkPoise(m, l, arms, limit); e != api.OK {
		return 0, e
	}
	p := poise{arms, limit}
	now := tanksOf(m)
	for i, s := range l {
		if !p.keeps(now, s) {
			return i, api.OK
		}
		now = now.behind(s)
	}
	return -1, api.OK
}
