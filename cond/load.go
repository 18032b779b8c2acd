package cond

import (
	"ullage/api"
	"ullage/fix"
)

// join is a load whose ranges are made of those of two loads.
func join(a, b api.Load, with func(a, b api.Range) (api.Range, api.Errno)) (api.Load, api.Errno) {
	if CheckLoad(a) != api.OK || CheckLoad(b) != api.OK || len(a.Weights) != len(b.Weights) {
		return api.Load{}, api.ErrLoad
	}
	bad := api.OK
	made := func(a, b api.Range) api.Range {
		r, e := with(a, b)
		if e != api.OK {
			bad = e
		}
		return r
	}
	both := api.Load{Surface: made(a.Surface, b.Surface), Shift: made(a.Shift, b.Shift)}
	for i, v := range a.Weights {
		w := b.Weights[i]
		both.Weights = append(both.Weights, api.Weight{Mass: made(v.Mass, w.Mass), Along: made(v.Along, w.Along), High: made(v.High, w.High)})
	}
	if bad != api.OK {
		return api.Load{}, bad
	}
	return both, api.OK
}

// Hull returns a load that has whatever lies between two loads.
func Hull(a, b api.Load) (api.Load, api.Errno) { return join(a, b, fix.Hull) }

// Narrow returns the load that two readings allow together.
func Narrow(a, b api.Load) (api.Load, api.Errno) { return join(a, b, fix.Meet) }
