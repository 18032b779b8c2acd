package plan_test

import (
	"math"
	"math/big"
	"math/rand"
	"slices"
	"testing"

	"ullage/api"
	"ullage/plan"
)

// exampleBeam is the beam of the chapter's examples.
func exampleBeam() api.Beam {
	return api.Beam{
		Sections: []api.Section{{Length: 1000, Base: one(-10)}, {Length: 1000, Base: one(10)}},
		Loads:    [][]api.Range{ranges(one(20), one(-20))},
		Shear:    ranges(around(10)),
		Bending:  ranges(around(10)),
	}
}

func TestExamplesOfBeams(t *testing.T) {
	for done, want := range []int{-10, 10} {
		if l, e := plan.Shear(exampleBeam(), done); !slices.Equal(l, ranges(one(want))) || e != api.OK {
			t.Error(done, l, e)
		}
		if l, e := plan.Bending(exampleBeam(), done); !slices.Equal(l, ranges(one(want))) || e != api.OK {
			t.Error(done, l, e)
		}
		if is, e := plan.Keeps(exampleBeam(), done); !is || e != api.OK {
			t.Error(done, is, e)
		}
	}
	if l, e := plan.Legs(exampleBeam(), []api.Job{{Minutes: 1}}); !slices.Equal(l, legs(0, 1)) || e != api.OK {
		t.Error(l, e)
	}
}

// tripleBeam has three sections of different lengths, and two jobs with loads in ranges.
func tripleBeam() api.Beam {
	return api.Beam{
		Sections: []api.Section{{Length: 1500, Base: span(-3, 4)}, {Length: 700, Base: span(1, 2)}, {Length: 1, Base: span(-100, 100)}},
		Loads:    [][]api.Range{ranges(span(10, 12), span(-1, 0), one(7)), ranges(one(-20), span(0, 5), span(-9, 9))},
		Shear:    ranges(span(-23, 16), span(-23, 18)),
		Bending:  ranges(span(-35, 24), span(-51, 37)),
	}
}

// TestStrainsByHand: the first section's load is 1500 long, the shear behind it 700 more.
func TestStrainsByHand(t *testing.T) {
	b := tripleBeam()
	for done, want := range []struct{ shear, bending []api.Range }{
		{ranges(span(-3, 4), span(-2, 6)), ranges(span(-5, 6), span(-6, 11))},           // -4.5 6, -5.9 10.2
		{ranges(span(7, 16), span(7, 18)), ranges(span(10, 24), span(15, 37))},          // 10.5 24, 15.4 36.6
		{ranges(span(-23, -16), span(-22, -9)), ranges(span(-35, -24), span(-50, -30))}, // -34.5 -24, -49.9 -30.3
		{ranges(span(-13, -4), span(-13, 3)), ranges(span(-20, -6), span(-29, -3))},     // -19.5 -6, -28.6 -3.9
	} {
		if l, e := plan.Shear(b, done); !slices.Equal(l, want.shear) || e != api.OK {
			t.Error(done, l, e)
		}
		if l, e := plan.Bending(b, done); !slices.Equal(l, want.bending) || e != api.OK {
			t.Error(done, l, e)
		}
		if is, e := plan.Keeps(b, done); !is || e != api.OK {
			t.Error(done, is, e)
		}
	}
}

// TestLimitsOfBeams: each limit by itself decides, at its cut, with its end.
func TestLimitsOfBeams(t *testing.T) {
	strained := func(done int) api.Beam {
		b := tripleBeam()
		b.Shear, _ = plan.Shear(b, done)
		b.Bending, _ = plan.Bending(b, done)
		return b
	}
	for done := range 4 {
		if is, e := plan.Keeps(strained(done), done); !is || e != api.OK {
			t.Error("just at the limits:", done, is, e)
		}
		for cut := range 2 {
			for what, narrow := range []func(b *api.Beam){
				func(b *api.Beam) { b.Shear[cut].Lo++ },
				func(b *api.Beam) { b.Shear[cut].Hi-- },
				func(b *api.Beam) { b.Bending[cut].Lo++ },
				func(b *api.Beam) { b.Bending[cut].Hi-- },
			} {
				b := strained(done)
				narrow(&b)
				if is, e := plan.Keeps(b, done); is || e != api.OK {
					t.Error("just beyond a limit:", done, cut, what, is, e)
				}
			}
		}
	}
}

func TestBeamsThatAreNone(t *testing.T) {
	bad := map[string]func(b *api.Beam){
		"nothing":                    func(b *api.Beam) { *b = api.Beam{} },
		"no sections":                func(b *api.Beam) { b.Sections = nil },
		"one section":                func(b *api.Beam) { b.Sections = b.Sections[:1] },
		"one section, all fitting":   func(b *api.Beam) { *b = wideBeam(1, 2) },
		"many sections, all fitting": func(b *api.Beam) { *b = wideBeam(13, 2) },
		"no loads":                   func(b *api.Beam) { b.Loads = nil },
		"no loads, all fitting":      func(b *api.Beam) { *b = wideBeam(3, 0) },
		"many loads":                 func(b *api.Beam) { *b = wideBeam(3, 9) },
		"few loads of a job":         func(b *api.Beam) { b.Loads[1] = b.Loads[1][:2] },
		"no loads of a job":          func(b *api.Beam) { b.Loads[0] = nil },
		"many loads of a job":        func(b *api.Beam) { b.Loads[1] = append(b.Loads[1], one(0)) },
		"few shears":                 func(b *api.Beam) { b.Shear = b.Shear[:1] },
		"many shears":                func(b *api.Beam) { b.Shear = append(b.Shear, one(0)) },
		"no shears":                  func(b *api.Beam) { b.Shear = nil },
		"few bendings":               func(b *api.Beam) { b.Bending = b.Bending[:1] },
		"many bendings":              func(b *api.Beam) { b.Bending = append(b.Bending, one(0)) },
		"no length":                  func(b *api.Beam) { b.Sections[1].Length = 0 },
		"a length below 0":           func(b *api.Beam) { b.Sections[2].Length = -1 },
		"a great length":             func(b *api.Beam) { b.Sections[0].Length = api.MaxX + 1 },
		"the greatest length":        func(b *api.Beam) { b.Sections[2].Length = math.MaxInt },
	}
	wrong := func(most int) map[string]api.Range {
		return map[string]api.Range{"no range": span(1, 0), "too small": span(-most-1, 0), "too great": span(0, most+1), "the least": span(math.MinInt, 0), "the greatest": span(0, math.MaxInt), "far above": one(most + 1), "far below": one(-most - 1)}
	}
	for what, r := range wrong(1000000000) {
		for k := range 3 {
			expectBadBeam(t, what, func(b *api.Beam) { b.Sections[k].Base = r })
			expectBadBeam(t, what, func(b *api.Beam) { b.Loads[0][k] = r })
			expectBadBeam(t, what, func(b *api.Beam) { b.Loads[1][k] = r })
		}
	}
	for what, r := range wrong(api.MaxStrain) {
		for k := range 2 {
			expectBadBeam(t, what, func(b *api.Beam) { b.Shear[k] = r })
			expectBadBeam(t, what, func(b *api.Beam) { b.Bending[k] = r })
		}
	}
	for what, do := range bad {
		expectBadBeam(t, what, do)
	}
}

// expectBadBeam asks all functions about a beam that is spoilt.
func expectBadBeam(t *testing.T, what string, do func(b *api.Beam)) {
	t.Helper()
	b := tripleBeam()
	do(&b)
	if e := plan.CheckBeam(b); e != api.ErrBeam {
		t.Errorf("%s: %d", what, e)
	}
	for _, done := range []int{0, -1, 1 << 40} {
		if l, e := plan.Shear(b, done); len(l) != 0 || e != api.ErrBeam {
			t.Errorf("%s: %v %d", what, l, e)
		}
		if l, e := plan.Bending(b, done); len(l) != 0 || e != api.ErrBeam {
			t.Errorf("%s: %v %d", what, l, e)
		}
		if is, e := plan.Keeps(b, done); is || e != api.ErrBeam {
			t.Errorf("%s: %v %d", what, is, e)
		}
	}
	for _, jobs := range [][]api.Job{nil, {{Minutes: 1}, {Minutes: 1}}} {
		if l, e := plan.Legs(b, jobs); len(l) != 0 || e != api.ErrBeam {
			t.Errorf("%s: %v %d", what, l, e)
		}
	}
}

// wideBeam has so many sections and jobs, with the greatest lengths and loads.
func wideBeam(sections, jobs int) api.Beam {
	var b api.Beam
	for range sections {
		b.Sections = append(b.Sections, api.Section{Length: api.MaxX, Base: around(1000000000)})
	}
	for range sections - 1 {
		b.Shear = append(b.Shear, around(api.MaxStrain))
		b.Bending = append(b.Bending, around(api.MaxStrain))
	}
	for range jobs {
		b.Loads = append(b.Loads, slices.Repeat(ranges(around(1000000000)), sections))
	}
	return b
}

// TestGreatestBeam: all strains of the greatest beam are exact.
func TestGreatestBeam(t *testing.T) {
	b := wideBeam(api.MaxSections, api.MaxJobs)
	if e := plan.CheckBeam(b); e != api.OK {
		t.Fatal(e)
	}
	for _, done := range []int{0, 1, 128, 255} {
		shear, bending := wantStrains(b, done)
		if l, e := plan.Shear(b, done); !slices.Equal(l, shear) || e != api.OK {
			t.Error(done, l, e)
		}
		if l, e := plan.Bending(b, done); !slices.Equal(l, bending) || e != api.OK {
			t.Error(done, l, e)
		}
		if is, e := plan.Keeps(b, done); is || e != api.OK {
			t.Error(done, is, e)
		}
	}
	if l, _ := plan.Bending(b, 255); l[10] != around(66*9000000000*1000) {
		t.Error(l)
	}
	least := wideBeam(2, 1)
	if e := plan.CheckBeam(least); e != api.OK {
		t.Error(e)
	}
	if is, e := plan.Keeps(least, 1); is || e != api.OK {
		t.Error(is, e)
	}
	least.Sections[0].Length = 1
	if is, e := plan.Keeps(least, 1); !is || e != api.OK {
		t.Error(is, e)
	}
}

func TestMasksThatAreNone(t *testing.T) {
	for _, done := range []int{-1, 4, 5, 8, math.MaxInt, math.MinInt} {
		if l, e := plan.Shear(tripleBeam(), done); len(l) != 0 || e != api.ErrArg {
			t.Error(done, l, e)
		}
		if l, e := plan.Bending(tripleBeam(), done); len(l) != 0 || e != api.ErrArg {
			t.Error(done, l, e)
		}
		if is, e := plan.Keeps(tripleBeam(), done); is || e != api.ErrArg {
			t.Error(done, is, e)
		}
	}
}

func TestJobsOfABeam(t *testing.T) {
	good := api.Job{Spout: 1, Minutes: 1}
	for _, jobs := range [][]api.Job{nil, {good}, {good, good, good}, slices.Repeat([]api.Job{good}, 9), make([]api.Job, 70)} {
		if l, e := plan.Legs(tripleBeam(), jobs); len(l) != 0 || e != api.ErrWork {
			t.Error(jobs, l, e)
		}
	}
	for what, spoil := range badJobs() {
		for k := range 2 {
			jobs := []api.Job{good, good}
			spoil(&jobs[k])
			if l, e := plan.Legs(tripleBeam(), jobs); len(l) != 0 || e != api.ErrWork {
				t.Error(what, k, l, e)
			}
		}
	}
	for _, j := range []api.Job{{Minutes: 1}, {Cost: api.MaxCost, Spout: api.MaxSpouts - 1, Minutes: api.MaxMinutes}} {
		if _, e := plan.Legs(tripleBeam(), []api.Job{good, j}); e != api.OK {
			t.Error(j, e)
		}
	}
}

// TestLegsTogether: two jobs run together by two spouts, and where each of both may be done first.
func TestLegsTogether(t *testing.T) {
	b := tripleBeam()
	expect := func(spout int, want []api.Leg) {
		t.Helper()
		if l, e := plan.Legs(b, []api.Job{{Minutes: 1}, {Spout: spout, Minutes: 1}}); !slices.Equal(l, want) || e != api.OK {
			t.Errorf("%v %d, want %v", l, e, want)
		}
	}
	expect(1, legs(0, 1, 0, 2, 0, 3, 1, 2, 2, 1))
	expect(0, legs(0, 1, 0, 2, 1, 2, 2, 1))
	// The job 1 alone is too much ahead of the job 0.
	b.Shear[0].Lo = -22
	expect(1, legs(0, 1, 1, 2))
	// Now the job 0 alone, too.
	b.Shear[0].Hi = 15
	expect(1, nil)
	b = tripleBeam()
	b.Bending[1].Lo = -28
	expect(1, legs(0, 1))
	b = tripleBeam()
	b.Bending[0].Lo = -4
	expect(1, nil)
	if l, e := plan.Legs(calmBeam(8), greatestWork().Jobs); len(l) != 8*128+24*64 || e != api.OK {
		t.Error(len(l), e)
	}
}

// TestLegsAreWork: what Legs returns is valid for the jobs.
func TestLegsAreWork(t *testing.T) {
	w := greatestWork()
	l, e := plan.Legs(calmBeam(8), w.Jobs)
	if e2 := plan.CheckWork(api.Work{Jobs: w.Jobs, Legs: l}); e != api.OK || e2 != api.OK {
		t.Error(e, e2)
	}
	if n, e := plan.Count(api.Work{Jobs: w.Jobs, Legs: l}); n < 100000 || e != api.OK {
		t.Error(n, e)
	}
}

// beamTrials calls do with random beams, and jobs for them.
func beamTrials(seed int64, n int, do func(r *rand.Rand, b api.Beam, jobs []api.Job)) {
	trials(seed, n, func(r *rand.Rand, w api.Work) { do(r, randomBeam(r, len(w.Jobs)), w.Jobs) })
}

// TestStrainsOfRandomBeams holds strains against exact fractions.
func TestStrainsOfRandomBeams(t *testing.T) {
	kept, broken, together, all := 0, 0, 0, 0
	beamTrials(59, 300, func(r *rand.Rand, b api.Beam, jobs []api.Job) {
		for done := range 1 << len(jobs) {
			shear, bending := wantStrains(b, done)
			if l, e := plan.Shear(b, done); !slices.Equal(l, shear) || e != api.OK {
				t.Errorf("%v with %d: %v %d, want %v", b, done, l, e, shear)
			}
			if l, e := plan.Bending(b, done); !slices.Equal(l, bending) || e != api.OK {
				t.Errorf("%v with %d: %v %d, want %v", b, done, l, e, bending)
			}
			is, e := plan.Keeps(b, done)
			if is != wantKeeps(b, done) || e != api.OK {
				t.Errorf("%v with %d: %v %d", b, done, is, e)
			}
			if is {
				kept++
			} else {
				broken++
			}
		}
		l, e := plan.Legs(b, jobs)
		if !slices.Equal(l, wantLegs(b, jobs)) || e != api.OK {
			t.Errorf("%v with %v: %v %d, want %v", b, jobs, l, e, wantLegs(b, jobs))
		}
		all += len(l)
		for _, x := range l {
			together += jobsIn(x.Add) - 1
		}
	})
	if kept < 500 || broken < 500 || together < 50 || all < 500 {
		t.Error("too few cases:", kept, broken, together, all)
	}
}

// parted are the parts of jobs while a leg is done, of which p and q of 1000 of both jobs are done.
func parted(l api.Leg, p, q int) part {
	return func(job int) *big.Rat {
		switch {
		case l.From>>job%2 == 1:
			return big.NewRat(1, 1)
		case l.Add>>job%2 == 0:
			return new(big.Rat)
		case l.Add%(1<<job) == 0:
			return big.NewRat(int64(p), 1000)
		}
		return big.NewRat(int64(q), 1000)
	}
}

// TestEachInstant is P5.6, with all loads within the ranges: whole numbers, and others.
func TestEachInstant(t *testing.T) {
	seen := 0
	beamTrials(60, 400, func(r *rand.Rand, b api.Beam, jobs []api.Job) {
		l, e := plan.Legs(b, jobs)
		if e != api.OK {
			t.Fatal(e)
		}
		some := func(x api.Range) *big.Rat {
			return new(big.Rat).Add(lowest(x), big.NewRat(int64(r.Intn(3*(x.Hi-x.Lo)+1)), 3))
		}
		ends := func(x api.Range) *big.Rat {
			if r.Intn(2) == 0 {
				return lowest(x)
			}
			return highest(x)
		}
		for _, x := range l {
			for _, choose := range []pick{lowest, highest, some, ends, some} {
				p, q := r.Intn(1001), r.Intn(1001)
				shear, bending := strains(b, loadsFor(b, parted(x, p, q), choose))
				if !allIn(shear, b.Shear) || !allIn(bending, b.Bending) {
					t.Errorf("%v: with %d and %d of %v: %v %v", b, p, q, x, shear, bending)
				}
				seen++
			}
		}
	})
	if seen < 2000 {
		t.Error("too few cases:", seen)
	}
}

// widened and narrowed are a range with more, and with fewer numbers.
func widened(r *rand.Rand, x api.Range) api.Range { return span(x.Lo-r.Intn(3), x.Hi+r.Intn(3)) }

func narrowed(r *rand.Rand, x api.Range) api.Range {
	lo := x.Lo + r.Intn(x.Hi-x.Lo+1)
	return span(lo, lo+r.Intn(x.Hi-lo+1))
}

// TestWiderLimits is P5.8.
func TestWiderLimits(t *testing.T) {
	stays, comes := 0, 0
	beamTrials(61, 500, func(r *rand.Rand, b api.Beam, jobs []api.Job) {
		for done := range 1 << len(jobs) {
			before, _ := plan.Keeps(b, done)
			wide := b
			wide.Shear, wide.Bending = nil, nil
			for cut := range b.Shear {
				wide.Shear = append(wide.Shear, widened(r, b.Shear[cut]))
				wide.Bending = append(wide.Bending, widened(r, b.Bending[cut]))
			}
			narrow := b
			narrow.Sections, narrow.Loads = slices.Clone(b.Sections), nil
			for s := range narrow.Sections {
				narrow.Sections[s].Base = narrowed(r, narrow.Sections[s].Base)
			}
			for _, l := range b.Loads {
				var less []api.Range
				for _, x := range l {
					less = append(less, narrowed(r, x))
				}
				narrow.Loads = append(narrow.Loads, less)
			}
			for _, x := range []api.Beam{wide, narrow} {
				after, e := plan.Keeps(x, done)
				if before && !after || e != api.OK {
					t.Errorf("%v keeps the limits with %d, but %v does not: %d", b, done, x, e)
				}
				if before {
					stays++
				} else if after {
					comes++
				}
			}
		}
	})
	if stays < 500 || comes < 100 {
		t.Error("too few cases:", stays, comes)
	}
}
