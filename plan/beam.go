package plan

import (
	"cmp"

	"ullage/api"
)

// maxLoad limits the loads of sections, with either sign.
const maxLoad = 1000000000

// within reports whether r has numbers, all of which are numbers of all.
func within(r, all api.Range) bool {
	return all.Lo <= r.Lo && r.Lo <= r.Hi && r.Hi <= all.Hi
}

// areRanges reports whether there are so many ranges, all of them valid, with numbers from -most to most.
func areRanges(l []api.Range, many, most int) bool {
	if len(l) != many {
		return false
	}
	for _, r := range l {
		if !within(r, api.Range{Lo: -most, Hi: most}) {
			return false
		}
	}
	return true
}

// areSections reports whether a beam's sections are valid.
func areSections(l []api.Section) bool {
	for _, s := range l {
		if !isBetween(s.Length, 1, api.MaxX) || !within(s.Base, api.Range{Lo: -maxLoad, Hi: maxLoad}) {
			return false
		}
	}
	return isBetween(len(l), 2, api.MaxSections)
}

// CheckBeam reports whether a beam is valid.
func CheckBeam(b api.Beam) api.Errno {
	if !areSections(b.Sections) || !isBetween(len(b.Loads), 1, api.MaxJobs) {
		return api.ErrBeam
	}
	for _, l := range b.Loads {
		if !areRanges(l, len(b.Sections), maxLoad) {
			return api.ErrBeam
		}
	}
	cuts := len(b.Sections) - 1
	if !areRanges(b.Shear, cuts, api.MaxStrain) || !areRanges(b.Bending, cuts, api.MaxStrain) {
		return api.ErrBeam
	}
	return api.OK
}

// checkDone reports whether a mask is one of a beam's jobs.
func checkDone(b api.Beam, done int) api.Errno {
	if !isMask(done, len(b.Loads)) {
		return api.ErrArg
	}
	return api.OK
}

// plus is the range of sums.
func plus(a, b api.Range) api.Range { return api.Range{Lo: a.Lo + b.Lo, Hi: a.Hi + b.Hi} }

// loadOf is the load of a section, by its index, for a mask.
func loadOf(b api.Beam, section, done int) api.Range {
	sum := b.Sections[section].Base
	for j, l := range b.Loads {
		if done&(1<<j) != 0 {
			sum = plus(sum, l[section])
		}
	}
	return sum
}

// shearOf is the shear at each cut of a valid beam for a mask.
func shearOf(b api.Beam, done int) []api.Range {
	var l []api.Range
	var sum api.Range
	for cut := range b.Shear {
		sum = plus(sum, loadOf(b, cut, done))
		l = append(l, sum)
	}
	return l
}

// floor is n / d rounded down; d is above 0.
func floor(n, d int) int {
	q := n / d
	if n%d < 0 {
		q--
	}
	return q
}

// bendingOf is the bending moment at each cut of a valid beam for a mask.
func bendingOf(b api.Beam, done int) []api.Range {
	var l []api.Range
	var sum api.Range
	for cut, shear := range shearOf(b, done) {
		long := b.Sections[cut].Length
		sum = plus(sum, api.Range{Lo: shear.Lo * long, Hi: shear.Hi * long})
		l = append(l, api.Range{Lo: floor(sum.Lo, 1000), Hi: -floor(-sum.Hi, 1000)})
	}
	return l
}

// allWithin reports whether each range lies within the limit at its cut.
func allWithin(l, limits []api.Range) bool {
	for cut, r := range l {
		if !within(r, limits[cut]) {
			return false
		}
	}
	return true
}

// keeps reports whether a mask keeps the limits of a valid beam.
func keeps(b api.Beam, done int) bool {
	return allWithin(shearOf(b, done), b.Shear) && allWithin(bendingOf(b, done), b.Bending)
}

// Shear returns the shear at each cut.
func Shear(b api.Beam, done int) ([]api.Range, api.Errno) {
	if e := cmp.Or(CheckBeam(b), checkDone(b, done)); e != api.OK {
		return nil, e
	}
	return shearOf(b, done), api.OK
}

// Bending returns the bending moment at each cut.
func Bending(b api.Beam, done int) ([]api.Range, api.Errno) {
	if e := cmp.Or(CheckBeam(b), checkDone(b, done)); e != api.OK {
		return nil, e
	}
	return bendingOf(b, done), api.OK
}

// Keeps reports whether a mask surely keeps the limits of a beam.
func Keeps(b api.Beam, done int) (bool, api.Errno) {
	if e := cmp.Or(CheckBeam(b), checkDone(b, done)); e != api.OK {
		return false, e
	}
	return keeps(b, done), api.OK
}

// isSafe reports whether a leg, which has one or two jobs, keeps the limits at each instant. What is done of both jobs lies between these corners, and the strain changes evenly from corner to corner.
func isSafe(kept []bool, l api.Leg) bool {
	first := l.Add & -l.Add
	second := l.Add - first
	return kept[l.From] && kept[l.From+first] && kept[l.From+second] && kept[leadsTo(l)]
}

// Legs returns the legs that keep the limits of a beam at each instant.
func Legs(b api.Beam, jobs []api.Job) ([]api.Leg, api.Errno) {
	if e := CheckBeam(b); e != api.OK {
		return nil, e
	}
	if len(jobs) != len(b.Loads) || !areJobs(jobs) {
		return nil, api.ErrWork
	}
	masks := allOf(len(jobs)) + 1
	var kept []bool
	for mask := range masks {
		kept = append(kept, keeps(b, mask))
	}
	var l []api.Leg
	for from := range masks {
		for add := range masks {
			if leg := (api.Leg{From: from, Add: add}); isLeg(jobs, leg) && isSafe(kept, leg) {
				l = append(l, leg)
			}
		}
	}
	return l, api.OK
}
