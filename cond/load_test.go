package cond_test

import (
	"math/rand"
	"reflect"
	"testing"

	"ullage/api"
	"ullage/cond"
)

func expectLoad(t *testing.T, what string, got api.Load, e api.Errno, want api.Load, wantE api.Errno) {
	t.Helper()
	if len(got.Weights) == 0 && len(want.Weights) == 0 {
		got.Weights, want.Weights = nil, nil
	}
	if !reflect.DeepEqual(got, want) || e != wantE {
		t.Errorf("%s: got %v %d, want %v %d", what, got, e, want, wantE)
	}
}

// hullOf has the numbers of both, and those between; meetOf those that both have: its Lo is above its Hi if there are none.
func hullOf(a, b api.Range) api.Range { return span(min(a.Lo, b.Lo), max(a.Hi, b.Hi)) }
func meetOf(a, b api.Range) api.Range { return span(max(a.Lo, b.Lo), min(a.Hi, b.Hi)) }

// joined makes each range of those of two loads, and tells whether each has a number.
func joined(a, b api.Load, of func(a, b api.Range) api.Range) (api.Load, bool) {
	some := true
	with := func(a, b api.Range) api.Range {
		r := of(a, b)
		some = some && r.Lo <= r.Hi
		return r
	}
	l := api.Load{Surface: with(a.Surface, b.Surface), Shift: with(a.Shift, b.Shift)}
	for i, w := range a.Weights {
		v := b.Weights[i]
		l.Weights = append(l.Weights, api.Weight{Mass: with(w.Mass, v.Mass), Along: with(w.Along, v.Along), High: with(w.High, v.High)})
	}
	return l, some
}

func TestHullAndNarrow(t *testing.T) {
	r := rand.New(rand.NewSource(50))
	none, some := 0, 0
	for range 2000 {
		z := sizes()[r.Intn(2)]
		a, b := randomLoad(r, z), randomLoad(r, z)
		if r.Intn(2) == 0 {
			b = widerLoad(r, a, 3)
		}
		n := min(len(a.Weights), len(b.Weights))
		a.Weights, b.Weights = a.Weights[:n], b.Weights[:n]
		got, e := cond.Hull(a, b)
		want, _ := joined(a, b, hullOf)
		expectLoad(t, "Hull", got, e, want, api.OK)
		got, e = cond.Narrow(a, b)
		want, ok := joined(a, b, meetOf)
		wantE := api.OK
		if !ok {
			want, wantE = api.Load{}, api.ErrNone
			none++
		} else {
			some++
		}
		expectLoad(t, "Narrow", got, e, want, wantE)
	}
	if none < 200 || some < 200 {
		t.Error("too few cases:", none, some)
	}
}

// wider has a range, and up to far numbers more at both ends, from lo to hi.
func wider(r *rand.Rand, a api.Range, far, lo, hi int) api.Range {
	return span(max(lo, a.Lo-r.Intn(far+1)), min(hi, a.Hi+r.Intn(far+1)))
}

// widerLoad has a load within it.
func widerLoad(r *rand.Rand, l api.Load, far int) api.Load {
	b := api.Load{Surface: wider(r, l.Surface, far, 0, api.MaxMoment), Shift: wider(r, l.Shift, far, 0, api.MaxMoment)}
	for _, w := range l.Weights {
		b.Weights = append(b.Weights, api.Weight{Mass: wider(r, w.Mass, far, 0, api.MaxKilos), Along: wider(r, w.Along, far, -api.MaxPlace, api.MaxPlace), High: wider(r, w.High, far, 0, api.MaxPlace)})
	}
	return b
}

// TestEachRange has two loads of which one range is apart, or touches.
func TestEachRange(t *testing.T) {
	good := func() api.Load {
		w := api.Weight{Mass: span(10, 20), Along: span(10, 20), High: span(10, 20)}
		return api.Load{Weights: []api.Weight{w, w}, Surface: span(10, 20), Shift: span(10, 20)}
	}
	for what, find := range map[string]func(l *api.Load) *api.Range{
		"Surface": func(l *api.Load) *api.Range { return &l.Surface },
		"Shift":   func(l *api.Load) *api.Range { return &l.Shift },
		"Mass":    func(l *api.Load) *api.Range { return &l.Weights[0].Mass },
		"Along":   func(l *api.Load) *api.Range { return &l.Weights[1].Along },
		"High":    func(l *api.Load) *api.Range { return &l.Weights[0].High },
	} {
		for _, x := range []struct {
			r, hull, narrow api.Range
			e               api.Errno
		}{
			{span(21, 30), span(10, 30), api.Range{}, api.ErrNone}, {span(0, 9), span(0, 20), api.Range{}, api.ErrNone},
			{span(20, 30), span(10, 30), one(20), api.OK}, {span(0, 10), span(0, 20), one(10), api.OK},
			{span(12, 15), span(10, 20), span(12, 15), api.OK}, {span(0, 30), span(0, 30), span(10, 20), api.OK},
		} {
			other, hull, narrow := good(), good(), good()
			*find(&other), *find(&hull), *find(&narrow) = x.r, x.hull, x.narrow
			if x.e != api.OK {
				narrow = api.Load{}
			}
			for _, p := range [][2]api.Load{{good(), other}, {other, good()}} {
				got, e := cond.Hull(p[0], p[1])
				expectLoad(t, "Hull of "+what, got, e, hull, api.OK)
				got, e = cond.Narrow(p[0], p[1])
				expectLoad(t, "Narrow of "+what, got, e, narrow, x.e)
			}
		}
	}
	empty := api.Load{Weights: []api.Weight{}}
	for _, p := range [][2]api.Load{{{}, {}}, {empty, {}}, {{}, empty}} {
		got, e := cond.Hull(p[0], p[1])
		expectLoad(t, "Hull of no weights", got, e, api.Load{}, api.OK)
		got, e = cond.Narrow(p[0], p[1])
		expectLoad(t, "Narrow of no weights", got, e, api.Load{}, api.OK)
	}
}

func TestNoHull(t *testing.T) {
	good := exampleL()
	apart := api.Load{Weights: good.Weights, Shift: one(1)}
	longer := api.Load{Weights: append(exampleL().Weights, api.Weight{}), Shift: one(1)}
	pairs := [][2]api.Load{{good, longer}, {longer, good}, {good, {}}, {{}, good}, {apart, longer}}
	for _, bad := range badLoads() {
		pairs = append(pairs, [2]api.Load{bad, good}, [2]api.Load{good, bad}, [2]api.Load{bad, bad}, [2]api.Load{apart, bad})
	}
	for _, p := range pairs {
		got, e := cond.Hull(p[0], p[1])
		expectLoad(t, "Hull", got, e, api.Load{}, api.ErrLoad)
		got, e = cond.Narrow(p[0], p[1])
		expectLoad(t, "Narrow", got, e, api.Load{}, api.ErrLoad)
	}
}
