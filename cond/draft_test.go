package cond_test

import (
	"slices"
	"testing"

	"ullage/api"
	"ullage/cond"
)

func TestDraftExamples(t *testing.T) {
	s, l := exampleS(), exampleL()
	r, e := cond.Draft(s, l)
	expect(t, "Draft", r, e, one(4000), api.OK)
	r, e = cond.Trim(s, l)
	expect(t, "Trim", r, e, one(20), api.OK)
	f, a, e := cond.Ends(s, l)
	expect(t, "Ends: fore", f, e, one(4010), api.OK)
	expect(t, "Ends: aft", a, e, one(3990), api.OK)
	r, e = cond.Metric(s, l)
	expect(t, "Metric", r, e, one(4000), api.OK)
}

// TestDrafts holds all against the oracle, errors too.
func TestDrafts(t *testing.T) {
	fine, out := 0, 0
	for _, x := range trials(10, 300) {
		r, e := cond.Draft(x.s, x.l)
		want, wantE := wantOver(x.s.Drafts, x.s, x.l)
		expect(t, "Draft", r, e, want, wantE)
		r, e = cond.Trim(x.s, x.l)
		want, wantE = wantTrim(x.s, x.l)
		expect(t, "Trim", r, e, want, wantE)
		f, a, e := cond.Ends(x.s, x.l)
		wantF, wantA, wantE := wantEnds(x.s, x.l)
		expect(t, "Ends: fore", f, e, wantF, wantE)
		expect(t, "Ends: aft", a, e, wantA, wantE)
		r, e = cond.Metric(x.s, x.l)
		want, wantE = wantMetric(x.s, x.l)
		expect(t, "Metric", r, e, want, wantE)
		if wantE == api.OK {
			fine++
		} else {
			out++
		}
	}
	if fine < 500 || out < 100 {
		t.Error("too few cases:", fine, out)
	}
}

// TestDomains: each function needs its tables, and no others. The displacement is 4 tonnes.
func TestDomains(t *testing.T) {
	needs := map[string][]string{"Total": nil, "Tonnes": nil, "Draft": {"drafts"}, "Trim": {"centres", "trims"}, "Ends": {"drafts", "centres", "trims"}, "Metric": {"heights"},
		"Righting": {"cross"}, "Heeling": nil, "Margin": {"cross"}, "Heel": {"cross"}, "End": {"flood"}, "Rest": {"cross", "flood"}, "Weakest": {"cross", "flood"}, "Facts": nil}
	change := map[string]func(s *api.Ship, u api.Table){
		"drafts":  func(s *api.Ship, u api.Table) { s.Drafts = u },
		"heights": func(s *api.Ship, u api.Table) { s.Heights = u },
		"centres": func(s *api.Ship, u api.Table) { s.Centres = u },
		"trims":   func(s *api.Ship, u api.Table) { s.Trims = u },
		"flood":   func(s *api.Ship, u api.Table) { s.Flood = u },
		"cross": func(s *api.Ship, u api.Table) {
			arms := s.Cross[0].Arms
			s.Cross = nil
			for _, p := range u.Points {
				s.Cross = append(s.Cross, api.Cross{Tonnes: p.X, Arms: arms})
			}
		},
	}
	for _, c := range calls() {
		need, asked := needs[c.name]
		if !asked {
			continue
		}
		for name, do := range change {
			for _, x := range []struct {
				u api.Table
				e api.Errno
			}{
				{exactly(4, 400), api.OK}, {exactly(4, 400, 5, 400), api.OK}, {exactly(0, 400, 4, 400), api.OK},
				{exactly(5, 400), api.ErrOut}, {exactly(5, 400, 9, 400), api.ErrOut}, {exactly(0, 400, 3, 400), api.ErrOut}, {exactly(0, 400), api.ErrOut},
			} {
				s, want := exampleS(), api.OK
				do(&s, x.u)
				if slices.Contains(need, name) {
					want = x.e
				}
				if zero, e := c.do(s, exampleL(), 100); e != want || zero != (want != api.OK) {
					t.Errorf("%s with %v for %s: %d, want %d (no other result: %v)", c.name, x.u, name, e, want, zero)
				}
			}
		}
	}
}

// TestWideDisplacement: all tonnes from the least to the greatest one have to be in the domain.
func TestWideDisplacement(t *testing.T) {
	s, l := exampleS(), exampleL()
	s.Drafts = tableOf([3]int{4, 10, 20}, [3]int{5, 0, 50}, [3]int{6, 15, 16})
	for _, x := range []struct {
		mass api.Range
		want api.Range
		e    api.Errno
	}{
		{span(2000, 4000), span(0, 50), api.OK},
		{span(2000, 2001), span(0, 50), api.OK},
		{span(3001, 4000), span(0, 50), api.OK},
		{span(4000, 4000), span(15, 16), api.OK},
		{span(1999, 2000), api.Range{}, api.ErrOut},
		{span(4000, 4001), api.Range{}, api.ErrOut},
		{span(0, 1000), api.Range{}, api.ErrOut},
		{span(5000, 6000), api.Range{}, api.ErrOut},
	} {
		l.Weights[0].Mass = x.mass
		r, e := cond.Draft(s, l)
		expect(t, "Draft", r, e, x.want, x.e)
	}
}

// TestHalves: the half of an odd trim is rounded so that the drafts have it.
func TestHalves(t *testing.T) {
	s, l := exampleS(), exampleL()
	for _, x := range []struct {
		along           api.Range
		trim, fore, aft api.Range
	}{
		{one(1050), one(21), span(4010, 4011), span(3989, 3990)},
		{one(-1050), one(-21), span(3989, 3990), span(4010, 4011)},
		{span(-1050, 1150), span(-21, 23), span(3989, 4012), span(3988, 4011)},
		{one(1), span(0, 1), span(4000, 4001), span(3999, 4000)},
		{one(-1), span(-1, 0), span(3999, 4000), span(4000, 4001)},
	} {
		l.Weights[0].Along = x.along
		r, e := cond.Trim(s, l)
		expect(t, "Trim", r, e, x.trim, api.OK)
		f, a, e := cond.Ends(s, l)
		expect(t, "Ends: fore", f, e, x.fore, api.OK)
		expect(t, "Ends: aft", a, e, x.aft, api.OK)
	}
}

// TestGreatTrims has moments that no valid range may have.
func TestGreatTrims(t *testing.T) {
	p := api.MaxPlace
	s := greatS()
	s.Light = api.Weight{Mass: one(api.MaxKilos), Along: one(p), High: one(0)}
	s.Centres = flat(0, api.MaxX, one(-p))
	for _, x := range []struct{ trims, want api.Range }{
		{one(1), one(2 * p * p)}, {one(api.MaxY), one(2000)}, {span(1, api.MaxY), span(2000, 2*p*p)}, {one(3), span(666666666666, 666666666667)},
	} {
		s.Trims = flat(0, api.MaxX, x.trims)
		r, e := cond.Trim(s, api.Load{})
		expect(t, "Trim", r, e, x.want, api.OK)
		back := s
		back.Light.Along, back.Centres = one(-p), flat(0, api.MaxX, one(p))
		r, e = cond.Trim(back, api.Load{})
		expect(t, "Trim back", r, e, span(-x.want.Hi, -x.want.Lo), api.OK)
	}
	s.Light.Mass, s.Centres = span(1000, api.MaxKilos), flat(0, api.MaxX, span(-p, p))
	s.Light.Along = span(-p, p)
	r, e := cond.Trim(s, api.Load{})
	expect(t, "Trim of all", r, e, span(-666666666667, 666666666667), api.OK)
	s.Drafts = flat(0, api.MaxX, span(-api.MaxY, api.MaxY))
	f, a, e := cond.Ends(s, api.Load{})
	expect(t, "Ends: fore", f, e, span(-333333333334-api.MaxY, 333333333334+api.MaxY), api.OK)
	expect(t, "Ends: aft", a, e, span(-333333333334-api.MaxY, 333333333334+api.MaxY), api.OK)
}

// TestRaised: free surfaces raise the centre.
func TestRaised(t *testing.T) {
	s, l := exampleS(), exampleL()
	for _, x := range []struct{ surface, want api.Range }{
		{one(0), one(4000)}, {one(1), span(3999, 4000)}, {one(4000), one(3999)}, {span(4000, 8001), span(3997, 3999)}, {one(api.MaxMoment), one(4000 - 250000000)},
	} {
		l.Surface = x.surface
		r, e := cond.Metric(s, l)
		expect(t, "Metric", r, e, x.want, api.OK)
	}
	s.Light.Mass, l.Surface = span(1000, 2000), one(6000)
	r, e := cond.Metric(s, l) // the centre from 3666.6 to 4000, raised by 1.5 to 2
	expect(t, "Metric", r, e, span(3998, 4333), api.OK)
	s, l = greatS(), api.Load{Surface: one(api.MaxMoment)}
	s.Light.Mass, s.Light.High = one(1000), span(0, api.MaxPlace)
	r, e = cond.Metric(s, l)
	expect(t, "Metric", r, e, span(-api.MaxY-api.MaxPlace, api.MaxPlace-api.MaxY), api.OK)
}
