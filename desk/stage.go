package desk

import (
	"iter"
	"slices"

	"ullage/api"
	"ullage/hold"
	"ullage/rule"
)

// holdAt is the index of a hold; -1 if there is none.
func holdAt(l []api.Hold, id int) int {
	return slices.IndexFunc(l, func(h api.Hold) bool { return h.Id == id })
}

// refilled is a voyage in which the hold with an index has another fill. It shares all else.
func refilled(v api.Voyage, i int, f api.Fill) api.Voyage {
	v.Fills = slices.Clone(v.Fills)
	v.Fills[i] = f
	return v
}

// poured is a valid voyage behind a pour. It shares all but its fills.
func poured(v api.Voyage, p api.Pour) (api.Voyage, api.Errno) {
	i := holdAt(v.Holds, p.Hold)
	if i < 0 {
		return api.Voyage{}, api.ErrHold
	}
	f, e := hold.Pour(v.Holds[i], v.Fills[i], p.Mass, p.Density)
	if e != api.OK {
		return api.Voyage{}, e
	}
	return refilled(v, i, f), api.OK
}

// stage is that a valid voyage becomes another one by pouring into some holds at the same time.
type stage struct {
	ahead, behind api.Voyage
	holds         []int // their indices
}

// stageOf is the stage of pours.
func stageOf(v api.Voyage, l []api.Pour) (stage, api.Errno) {
	if e := CheckVoyage(v); e != api.OK {
		return stage{}, e
	}
	if !isBetween(len(l), 1, 2) || len(l) == 2 && l[0].Hold == l[1].Hold {
		return stage{}, api.ErrArg
	}
	s := stage{ahead: v, behind: v}
	for _, p := range l {
		var e api.Errno
		if s.behind, e = poured(s.behind, p); e != api.OK {
			return stage{}, e
		}
		s.holds = append(s.holds, holdAt(v.Holds, p.Hold))
	}
	return s, api.OK
}

// instants yields the voyages that cover each instant of a stage.
func (s stage) instants() iter.Seq[api.Voyage] {
	return func(yield func(api.Voyage) bool) {
		if len(s.holds) == 0 {
			yield(s.ahead)
			return
		}
		i := s.holds[0]
		fills, _ := hold.Between(s.ahead.Holds[i], s.ahead.Fills[i], s.behind.Fills[i])
		for _, f := range fills {
			rest := stage{refilled(s.ahead, i, f), s.behind, s.holds[1:]}
			for v := range rest.instants() {
				if !yield(v) {
					return
				}
			}
		}
	}
}

// judged judges the instants of a stage, and returns how many there are. Where the rules are not surely kept it returns the index of the first such instant, its voyage, and the error of Judge, or ErrUnsafe.
func (s stage) judged() (int, api.Voyage, api.Errno) {
	n := 0
	for v := range s.instants() {
		answer, e := Judge(v)
		if e == api.OK && answer != api.Yes {
			e = api.ErrUnsafe
		}
		if e != api.OK {
			return n, v, e
		}
		n++
	}
	return n, api.Voyage{}, api.OK
}

// Instants returns voyages that cover each instant while grain is poured.
func Instants(v api.Voyage, l []api.Pour) ([]api.Voyage, api.Errno) {
	s, e := stageOf(v, l)
	if e != api.OK {
		return nil, e
	}
	return copies(slices.Collect(s.instants()), copyOfVoyage), api.OK
}

// Behind returns the voyage behind a stage.
func Behind(v api.Voyage, l []api.Pour) (api.Voyage, api.Errno) {
	s, e := stageOf(v, l)
	return copyOfVoyage(s.behind), e
}

// Begin returns the voyage behind a stage, if it surely keeps the rules at each instant.
func Begin(v api.Voyage, l []api.Pour) (api.Voyage, int, api.Errno) {
	s, e := stageOf(v, l)
	if e != api.OK {
		return api.Voyage{}, 0, e
	}
	n, _, e := s.judged()
	if e != api.OK {
		return api.Voyage{}, n, e
	}
	return copyOfVoyage(s.behind), n, api.OK
}

// Why returns the first instant at which a rule may be broken, and the rule.
func Why(v api.Voyage, l []api.Pour) (int, string, api.Errno) {
	s, e := stageOf(v, l)
	if e != api.OK {
		return 0, "", e
	}
	n, there, e := s.judged()
	switch e {
	case api.OK:
		return 0, "", api.ErrNone
	case api.ErrUnsafe:
		f, _ := Facts(there)
		i, _, _ := rule.Breaks(there.Code, there.Day, f)
		return n, there.Code.Rules[i].Name, api.OK
	}
	return 0, "", e
}
