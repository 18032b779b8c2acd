package cond_test

import (
	"slices"
	"testing"

	"ullage/api"
	"ullage/cond"
	"ullage/fix"
)

func expectFacts(t *testing.T, what string, got []api.Fact, e api.Errno, want []api.Fact, wantE api.Errno) {
	t.Helper()
	if !slices.Equal(got, want) || e != wantE {
		t.Errorf("%s: got %v %d, want %v %d", what, got, e, want, wantE)
	}
}

func TestFactsExample(t *testing.T) {
	all := []api.Fact{{Name: "tonnes", Value: one(4)}, {Name: "draft", Value: one(4000)}, {Name: "trim", Value: one(20)}, {Name: "fore", Value: one(4010)}, {Name: "aft", Value: one(3990)},
		{Name: "gm", Value: one(4000)}, {Name: "heel", Value: one(20)}, {Name: "flood", Value: one(500)}, {Name: "area", Value: one(728000)}}
	got, e := cond.Facts(exampleS(), exampleL(), 400)
	expectFacts(t, "the example", got, e, all, api.OK)
	for most, area := range map[int]api.Range{0: one(0), 1: span(-195, -194), 799: span(1631316, 1631317), 800: one(1632000), 900: one(1632000)} {
		all[8].Value = area
		got, e := cond.Facts(exampleS(), exampleL(), most)
		expectFacts(t, "areas", got, e, all, api.OK)
	}
}

// wantFacts asks the oracle for each fact.
func wantFacts(x trial, most int) []api.Fact {
	l := []api.Fact{{Name: "tonnes", Value: wantTonnes(x.s, x.l)}}
	add := func(name string, r api.Range, e api.Errno) {
		if e == api.OK {
			l = append(l, api.Fact{Name: name, Value: r})
		}
	}
	r, e := wantOver(x.s.Drafts, x.s, x.l)
	add("draft", r, e)
	r, e = wantTrim(x.s, x.l)
	add("trim", r, e)
	fore, aft, e := wantEnds(x.s, x.l)
	add("fore", fore, e)
	add("aft", aft, e)
	r, e = wantMetric(x.s, x.l)
	add("gm", r, e)
	r, e = wantHeel(x.s, x.l)
	add("heel", r, e)
	r, e = wantOver(x.s.Flood, x.s, x.l)
	add("flood", r, e)
	angles := wantAngles(x.s)
	if m, e := wantMargin(x.s, x.l); e == api.OK && most >= angles[0] {
		lo, hi, e := fix.Area(m, angles[0], min(most, angles[len(angles)-1]))
		add("area", span(lo, hi), e)
	}
	return l
}

func TestFacts(t *testing.T) {
	seen := map[string]int{}
	for i, x := range trials(55, 200) {
		for _, most := range []int{api.MaxAngle, i % 50} {
			got, e := cond.Facts(x.s, x.l, most)
			expectFacts(t, "Facts", got, e, wantFacts(x, most), api.OK)
			for _, f := range got {
				seen[f.Name]++
			}
		}
	}
	for name, n := range seen {
		if n < 200 || name != "tonnes" && n > seen["tonnes"]-50 {
			t.Error("too few cases, with or without:", name, n)
		}
	}
}

// TestFactsLeftOut: a fact is left out exactly if its function has an error.
func TestFactsLeftOut(t *testing.T) {
	far := exactly(100, 5, 200, 5)
	for _, x := range []struct {
		what string
		do   func(s *api.Ship)
		out  []string
	}{
		{"drafts", func(s *api.Ship) { s.Drafts = far }, []string{"draft", "fore", "aft"}},
		{"heights", func(s *api.Ship) { s.Heights = far }, []string{"gm"}},
		{"centres", func(s *api.Ship) { s.Centres = far }, []string{"trim", "fore", "aft"}},
		{"trims", func(s *api.Ship) { s.Trims = far }, []string{"trim", "fore", "aft"}},
		{"flood", func(s *api.Ship) { s.Flood = far }, []string{"flood"}},
		{"curves", func(s *api.Ship) { s.Cross[0].Tonnes = 5 }, []string{"heel", "area"}},
		{"many angles", func(s *api.Ship) { s.Sine, s.Shift = comb(0, 60), comb(1, 60) }, []string{"heel", "area"}},
		{"never up", func(s *api.Ship) { s.Cross[0].Arms, s.Cross[1].Arms = flat(0, 800, one(-9)), flat(0, 800, one(-9)) }, []string{"heel"}},
		{"late angles", func(s *api.Ship) { s.Sine = flat(401, 900, one(0)) }, []string{"area"}},
		{"all", func(s *api.Ship) { s.Light.Mass = one(api.MaxKilos) }, []string{"draft", "trim", "fore", "aft", "gm", "heel", "flood", "area"}},
	} {
		s := exampleS()
		x.do(&s)
		got, e := cond.Facts(s, exampleL(), 400)
		expectFacts(t, x.what, got, e, wantFacts(trial{s, exampleL()}, 400), api.OK)
		var names []string
		for _, f := range got {
			names = append(names, f.Name)
		}
		want := slices.DeleteFunc([]string{"tonnes", "draft", "trim", "fore", "aft", "gm", "heel", "flood", "area"}, func(name string) bool { return slices.Contains(x.out, name) })
		if !slices.Equal(names, want) {
			t.Errorf("without %s: %v, want %v", x.what, names, want)
		}
	}
	// An area of one angle is 0.
	s := exampleS()
	s.Sine = flat(400, 900, one(0))
	got, e := cond.Facts(s, exampleL(), 400)
	if e != api.OK || len(got) != 9 || got[8] != (api.Fact{Name: "area"}) {
		t.Error(got, e)
	}
}
