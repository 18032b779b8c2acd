package parcel_test

import (
	"math"
	"math/rand"
	"reflect"
	"slices"
	"strings"
	"testing"

	"ullage/api"
	"ullage/parcel"
)

// request is what the functions are asked. (Its fields have great letters so that change can set them.)
type request struct {
	L                               api.Lot
	Lots                            []api.Lot
	S                               api.Stock
	D                               api.Deed
	Deeds                           []api.Deed
	H, G                            api.Heap
	Mass, Hold, Lot, Other, At, Own int
	Text                            string
}

func exampleRequest() request {
	s := exampleStock()
	s.Holds[0] = append(s.Holds[0], heap(3, 2))
	s.Holds[1] = []api.Heap{heap(3, 5), heap(1, 6)}
	return request{
		L: exampleLots()[0], Lots: exampleLots(), S: s, D: shift(0, 4, 5), Deeds: exampleDeeds(),
		H: heap(1, 10, 2, 10, 3, 10), G: heap(2, 5, 4, 1), Mass: 10, Hold: 1, Lot: 1, Other: 3, At: 0, Own: 1, Text: exampleText,
	}
}

// results are those of a function, beside its error.
type results []any

// call asks one function.
type call struct {
	what  string
	takes string // in the order of the errors
	do    func(q request) (results, api.Errno)
}

func none(e api.Errno) (results, api.Errno)                     { return nil, e }
func single[T any](x T, e api.Errno) (results, api.Errno)       { return results{x}, e }
func pair[T, U any](x T, y U, e api.Errno) (results, api.Errno) { return results{x, y}, e }

func calls() []call {
	return []call{
		{"CheckLot", "lot", func(q request) (results, api.Errno) { return none(parcel.CheckLot(q.L)) }},
		{"CheckLots", "lots", func(q request) (results, api.Errno) { return none(parcel.CheckLots(q.Lots)) }},
		{"Check", "stock", func(q request) (results, api.Errno) { return none(parcel.Check(q.S)) }},
		{"CheckDeed", "stock deed", func(q request) (results, api.Errno) { return none(parcel.CheckDeed(q.S, q.D)) }},
		{"Split", "heap mass", func(q request) (results, api.Errno) { return pair(parcel.Split(q.H, q.Mass)) }},
		{"Join", "heap heaps", func(q request) (results, api.Errno) { return single(parcel.Join(q.H, q.G)) }},
		{"Mass", "", func(q request) (results, api.Errno) { return results{parcel.Mass(q.H)}, api.OK }},
		{"Held", "stock hold", func(q request) (results, api.Errno) { return single(parcel.Held(q.S, q.Hold)) }},
		{"Do", "stock deed", func(q request) (results, api.Errno) { return pair(parcel.Do(q.S, q.D)) }},
		{"Play", "lots deeds", func(q request) (results, api.Errno) { return pair(parcel.Play(q.Lots, q.Deeds)) }},
		{"Without", "lots many at", func(q request) (results, api.Errno) { return pair(parcel.Without(q.Lots, q.Deeds, q.At)) }},
		{"Commute", "lots deeds two", func(q request) (results, api.Errno) { return single(parcel.Commute(q.Lots, q.Deeds, q.At)) }},
		{"Accounts", "lots deeds", func(q request) (results, api.Errno) { return single(parcel.Accounts(q.Lots, q.Deeds)) }},
		{"Of", "stock owner", func(q request) (results, api.Errno) { return single(parcel.Of(q.S, q.Own)) }},
		{"Free", "stock owner", func(q request) (results, api.Errno) { return single(parcel.Free(q.S, q.Own)) }},
		{"Share", "stock hold known empty", func(q request) (results, api.Errno) { return single(parcel.Share(q.S, q.Hold, q.Lot)) }},
		{"Wet", "stock hold empty", func(q request) (results, api.Errno) { return single(parcel.Wet(q.S, q.Hold)) }},
		{"Grades", "stock hold", func(q request) (results, api.Errno) { return single(parcel.Grades(q.S, q.Hold)) }},
		{"Pure", "stock", func(q request) (results, api.Errno) { return single(parcel.Pure(q.S)) }},
		{"Trace", "lots deeds known", func(q request) (results, api.Errno) { return single(parcel.Trace(q.Lots, q.Deeds, q.Lot)) }},
		{"Reach", "lots deeds known", func(q request) (results, api.Errno) { return single(parcel.Reach(q.Lots, q.Deeds, q.Lot)) }},
		{"Apart", "lots deeds known other equal", func(q request) (results, api.Errno) { return pair(parcel.Apart(q.Lots, q.Deeds, q.Lot, q.Other)) }},
		{"Print", "stock", func(q request) (results, api.Errno) { return single(parcel.Print(q.S)) }},
		{"Parse", "text", func(q request) (results, api.Errno) { return pair(parcel.Parse(q.Text)) }},
	}
}

// areNothing reports whether results are zero values; empty lists count as such.
func areNothing(l results) bool {
	return !slices.ContainsFunc(l, func(x any) bool { return !isNothing(reflect.ValueOf(x)) })
}

func isNothing(v reflect.Value) bool {
	switch v.Kind() {
	case reflect.Slice:
		return v.Len() == 0
	case reflect.Struct:
		for i := range v.NumField() {
			if !isNothing(v.Field(i)) {
				return false
			}
		}
		return true
	case reflect.Array:
		for i := range v.Len() {
			if !isNothing(v.Index(i)) {
				return false
			}
		}
		return true
	}
	return v.IsZero()
}

// tellsAPlace reports whether the number among the results has a meaning beside this error.
func tellsAPlace(what string, e api.Errno) bool {
	return what == "Play" && e != api.ErrLot || what == "Parse" && e == api.ErrText
}

// defect is what makes a request invalid.
type defect struct {
	what string
	do   func(q *request)
	e    api.Errno
}

// defects has what can be wrong with a request, by what a function takes, each list in the order in which it is told.
func defects() map[string][]defect {
	long := defect{"many deeds", func(q *request) { q.Deeds = slices.Repeat(q.Deeds, 13) }, api.ErrLong}
	return map[string][]defect{
		"lot": {{"no id", func(q *request) { q.L.Id = 0 }, api.ErrLot}, {"no owner", func(q *request) { q.L.Owner = 0 }, api.ErrLot}},
		"lots": {
			{"a lot", func(q *request) { q.Lots[1].Wet = -1 }, api.ErrLot},
			{"equal ids", func(q *request) { q.Lots[1].Id = 1 }, api.ErrLot},
			{"many lots", func(q *request) { q.Lots = manyLots(api.MaxLots + 1) }, api.ErrLot},
		},
		"stock": {
			{"a lot of the stock", func(q *request) { q.S.Lots[2].Grade = 0 }, api.ErrStock},
			{"a heap without parts", func(q *request) { q.S.Holds[7] = []api.Heap{{}} }, api.ErrStock},
			{"a heap of the stock", func(q *request) { q.S.Holds[0] = []api.Heap{heap(2, 1, 1, 1)} }, api.ErrStock},
			{"a lot that the stock has not", func(q *request) { q.S.Holds[6] = []api.Heap{heap(4, 1)} }, api.ErrStock},
			{"five heaps", func(q *request) { q.S.Holds[5] = slices.Repeat([]api.Heap{heap(1, 1)}, 5) }, api.ErrStock},
			{"a great mass", func(q *request) { q.S.Holds[3] = []api.Heap{heap(1, 1), heap(1, api.MaxMass)} }, api.ErrStock},
		},
		"deed": {
			{"a kind", func(q *request) { q.D.Kind = 7 }, api.ErrDeed},
			{"a number too much", func(q *request) { q.D.Lot += 7 }, api.ErrDeed},
			{"the same hold", func(q *request) { q.D = shift(0, 0, 5) }, api.ErrDeed},
			{"more than there is", func(q *request) { q.D = shift(0, 4, 43) }, api.ErrLess},
			{"nothing to mix", func(q *request) { q.D = mix(4) }, api.ErrNone},
			{"no room", func(q *request) { q.D = pour(1, 4, api.MaxMass-19) }, api.ErrLong},
		},
		"heap": {
			{"a part", func(q *request) { q.H.Parts[1].Mass = 0 }, api.ErrStock},
			{"an order", func(q *request) { q.H = heap(2, 1, 1, 1) }, api.ErrStock},
		},
		"heaps": {
			{"another heap's part", func(q *request) { q.G.Parts[0].Lot = 0 }, api.ErrStock},
			{"much together", func(q *request) { q.G = heap(1, api.MaxMass-29) }, api.ErrLong},
		},
		"mass": {
			{"a mass below 0", func(q *request) { q.Mass = -1 }, api.ErrArg},
			{"a great mass", func(q *request) { q.Mass = 31 }, api.ErrLess},
		},
		"hold": {
			{"a hold below 0", func(q *request) { q.Hold = -1 }, api.ErrArg},
			{"a great hold", func(q *request) { q.Hold = 9 }, api.ErrArg},
		},
		"many": {long},
		"deeds": {
			long,
			{"a deed", func(q *request) { q.Deeds[1].From = 1 }, api.ErrDeed},
			{"a deed of more than there is", func(q *request) { q.Deeds[2].Mass = 101 }, api.ErrLess},
			{"a later deed", func(q *request) { q.Deeds[4] = mix(8) }, api.ErrNone},
		},
		"at":    {{"an index below 0", func(q *request) { q.At = -1 }, api.ErrArg}, {"an index behind all", func(q *request) { q.At = 100 }, api.ErrArg}},
		"two":   {{"an index below 0", func(q *request) { q.At = -1 }, api.ErrArg}, {"the last index", func(q *request) { q.At = len(q.Deeds) - 1 }, api.ErrArg}},
		"owner": {{"no owner", func(q *request) { q.Own = 0 }, api.ErrArg}, {"a great owner", func(q *request) { q.Own = 10 }, api.ErrArg}},
		"known": {{"no lot", func(q *request) { q.Lot = 0 }, api.ErrLot}, {"another lot", func(q *request) { q.Lot = 41 }, api.ErrLot}},
		"other": {{"no other lot", func(q *request) { q.Other = 0 }, api.ErrLot}},
		"equal": {{"one lot", func(q *request) { q.Other = q.Lot }, api.ErrArg}},
		"empty": {{"an empty hold", func(q *request) { q.Hold = 2 }, api.ErrNone}},
		"text": {
			{"a long text", func(q *request) { q.Text += strings.Repeat("\n", api.MaxStock) }, api.ErrLong},
			{"a line", func(q *request) { q.Text += "heap 9 1 1\n" }, api.ErrText},
			{"a text of no stock", func(q *request) { q.Text += "heap 0 4 1\n" }, api.ErrStock},
		},
	}
}

// TestErrors is the order of errors of all functions, with zero values beside each: of two defects, the one that is named first decides.
func TestErrors(t *testing.T) {
	for _, f := range calls() {
		var l []defect
		for _, what := range strings.Fields(f.takes) {
			l = append(l, defects()[what]...)
		}
		expect := func(e api.Errno, list ...defect) {
			q := exampleRequest()
			for _, d := range list {
				d.do(&q)
			}
			x, got := f.do(q)
			if got != e {
				t.Errorf("%s with %v: %d, want %d", f.what, list, got, e)
			}
			if got != api.OK && !tellsAPlace(f.what, got) && !areNothing(x) {
				t.Errorf("%s: %v with the error %d", f.what, x, got)
			}
		}
		expect(api.OK)
		for i, d := range l {
			expect(d.e, d)
			for _, later := range l[i+1:] {
				expect(d.e, later, d)
			}
		}
	}
}

// block is the memory of a list.
type block struct{ from, to uintptr }

// blocks are those of all lists of a value.
func blocks(v reflect.Value) []block {
	var l []block
	switch v.Kind() {
	case reflect.Slice:
		if v.Cap() > 0 {
			l = append(l, block{v.Pointer(), v.Pointer() + uintptr(v.Cap())*v.Type().Elem().Size()})
		}
		for i := range v.Len() {
			l = append(l, blocks(v.Index(i))...)
		}
	case reflect.Array:
		for i := range v.Len() {
			l = append(l, blocks(v.Index(i))...)
		}
	case reflect.Struct:
		for i := range v.NumField() {
			l = append(l, blocks(v.Field(i))...)
		}
	}
	return l
}

// shares reports whether any two of these blocks share memory.
func shares(l []block) bool {
	for i, a := range l {
		for _, b := range l[i+1:] {
			if a.from < b.to && b.from < a.to {
				return true
			}
		}
	}
	return false
}

// spoil makes all numbers of lists others.
func spoil(v reflect.Value) {
	switch v.Kind() {
	case reflect.Slice:
		for i := range v.Len() {
			spoil(v.Index(i))
			if v.Index(i).CanSet() {
				v.Index(i).SetZero()
			}
		}
	case reflect.Array, reflect.Struct:
		n := 0
		if v.Kind() == reflect.Array {
			n = v.Len()
		} else {
			n = v.NumField()
		}
		for i := range n {
			if v.Kind() == reflect.Array {
				spoil(v.Index(i))
			} else {
				spoil(v.Field(i))
			}
		}
	}
}

// withDeeds are requests of all kinds of deeds.
func withDeeds() []request {
	var l []request
	for _, d := range []api.Deed{pour(1, 0, 5), pour(1, 7, 5), lay(2, 0, 5), lay(2, 8, 5), draw(0, 5), draw(0, 1), draw(0, 42), shift(0, 4, 5), shift(0, 7, 41), shift(0, 7, 42), lose(0, 5), lose(0, 42), mix(0), mix(1)} {
		q := exampleRequest()
		q.D = d
		q.Deeds = append(q.Deeds, pour(1, 8, 7), lay(2, 8, 3), mix(8), lose(8, 2), shift(8, 7, 1), d)
		if e := parcel.CheckDeed(exampleRequest().S, d); e != api.OK {
			panic(e)
		}
		l = append(l, q)
	}
	q := exampleRequest()
	q.Mass, q.G = 0, heap()
	l = append(l, q)
	q.Mass, q.G = 30, heap(9, 1)
	return append(l, q)
}

// TestMemory is R4: no argument is changed, and no result shares memory with one, or with another one.
func TestMemory(t *testing.T) {
	for i := range withDeeds() {
		for _, f := range calls() {
			q := withDeeds()[i]
			want, _ := f.do(withDeeds()[i])
			x, _ := f.do(q)
			if !reflect.DeepEqual(q, withDeeds()[i]) || !reflect.DeepEqual(x, want) {
				t.Errorf("%s has changed its arguments: %v", f.what, q)
			}
			all := blocks(reflect.ValueOf(q))
			for _, y := range x {
				all = append(all, blocks(reflect.ValueOf(y))...)
			}
			if shares(all) {
				t.Errorf("%s: %v shares memory", f.what, x)
			}
			for _, y := range x {
				spoil(reflect.ValueOf(y))
			}
			if again, _ := f.do(q); !reflect.DeepEqual(q, withDeeds()[i]) || !reflect.DeepEqual(again, want) {
				t.Errorf("%s: %v, at first %v", f.what, again, want)
			}
		}
	}
}

// TestRoomBehindLists: what lies in memory behind the lists that are handed in is kept too.
func TestRoomBehindLists(t *testing.T) {
	lots, parts := append(exampleLots(), api.Lot{Id: 77}), heap(1, 5, 2, 7, 3, 9).Parts
	heaps := []api.Heap{{Parts: parts[:2]}, heap(3, 1), heap(2, 2)}
	deeds := exampleDeeds()
	s := api.Stock{Lots: lots[:3]}
	s.Holds[0] = heaps[:1]
	for _, d := range []api.Deed{pour(3, 0, 4), lay(3, 0, 4), draw(0, 3), lose(0, 3), shift(0, 1, 3)} {
		if _, _, e := parcel.Do(s, d); e != api.OK {
			t.Error(d, e)
		}
	}
	parcel.Join(heaps[0], heaps[1])
	parcel.Split(heaps[0], 5)
	parcel.Commute(lots[:3], deeds[:2], 0)
	parcel.Without(lots[:3], deeds[:2], 0)
	if lots[3] != (api.Lot{Id: 77}) || parts[2] != (api.Part{Lot: 3, Mass: 9}) || !sameHeap(heaps[1], heap(3, 1)) || !slices.Equal(deeds, exampleDeeds()) {
		t.Error(lots, parts, heaps, deeds)
	}
}

// TestNilAndEmpty is R3.
func TestNilAndEmpty(t *testing.T) {
	empty := api.Stock{Lots: []api.Lot{}}
	for hold := range empty.Holds {
		empty.Holds[hold] = []api.Heap{}
	}
	for _, s := range []api.Stock{{}, empty} {
		if text, e := parcel.Print(s); text != "" || e != api.OK {
			t.Error(text, e)
		}
		if e := parcel.CheckDeed(s, mix(0)); e != api.ErrNone {
			t.Error(e)
		}
	}
	for _, h := range []api.Heap{{}, {Parts: []api.Part{}}} {
		if e := parcel.Check(stock(h)); e != api.ErrStock {
			t.Error(e)
		}
		if got, e := parcel.Join(h, heap(1, 1)); !sameHeap(got, heap(1, 1)) || e != api.OK {
			t.Error(got, e)
		}
	}
	expectPlay(t, []api.Lot{}, []api.Deed{}, api.Stock{}, 0, api.OK)
	// A stock whose holds became empty is the same as one whose holds were never used.
	expectCommute(t, exampleLots(), []api.Deed{pour(1, 0, 5), pour(2, 1, 5), draw(0, 5), lose(1, 5)}, 2, true, api.OK)
}

// oddNumber is one at a limit, or far from all.
func oddNumber(r *rand.Rand) int {
	l := []int{0, 1, 2, 3, 4, 5, 6, 7, 8, 9, 10, 39, 40, 60, 9999, 10000, 40000, 100000000, 999999999, 1 << 31, 1 << 32, 1 << 62, math.MaxInt, math.MinInt, -1, -2}
	return l[r.Intn(len(l))] + r.Intn(3)*r.Intn(2) - r.Intn(2)
}

// oddText is a text with one word or byte more or less.
func oddText(r *rand.Rand, text string) string {
	words := []string{" ", "\n", "#", "lot ", "heap ", "0", "1 ", " 9", "-", "x", "\xff", "heap 8 1 1\n", "lot 9 1 1 1\n", " 1 2 "}
	i := r.Intn(len(text) + 1)
	return text[:i] + words[r.Intn(len(words))] + text[min(len(text), i+r.Intn(3)):]
}

// change makes a value another one, at random places: numbers, lists, or parts of them.
func change(r *rand.Rand, v reflect.Value) {
	switch v.Kind() {
	case reflect.Int:
		v.SetInt(int64(oddNumber(r)))
	case reflect.String:
		v.SetString(oddText(r, v.String()))
	case reflect.Struct:
		change(r, v.Field(r.Intn(v.NumField())))
	case reflect.Array:
		change(r, v.Index(r.Intn(v.Len())))
	case reflect.Slice:
		n := v.Len()
		switch {
		case n == 0 || r.Intn(8) == 0:
			v.Set(reflect.Append(v.Slice(0, n), reflect.New(v.Type().Elem()).Elem()))
		case r.Intn(6) == 0:
			v.Set(reflect.AppendSlice(v.Slice(0, n/2), v.Slice((n+1)/2, n)))
		case r.Intn(10) == 0:
			v.Set(reflect.AppendSlice(v.Slice(0, n), v.Slice(0, n)))
		default:
			change(r, v.Index(r.Intn(n)))
		}
	}
}

// TestAnyArguments is P1: no function panics, and beside an error are zero values.
func TestAnyArguments(t *testing.T) {
	r := rand.New(rand.NewSource(84))
	failed := map[string]int{}
	for range 60000 {
		q := exampleRequest()
		for range 1 + r.Intn(4) {
			change(r, reflect.ValueOf(&q).Elem())
		}
		f := calls()[r.Intn(len(calls()))]
		x, e := f.do(q)
		if e != api.OK {
			failed[f.what]++
			if !tellsAPlace(f.what, e) && !areNothing(x) {
				t.Errorf("%s of %v: %v with the error %d", f.what, q, x, e)
			}
		}
	}
	for _, f := range calls() {
		if failed[f.what] < 50 && f.what != "Mass" {
			t.Error("too few cases:", f.what, failed[f.what])
		}
	}
}

// TestNothing: what the functions tell of nothing.
func TestNothing(t *testing.T) {
	want := map[string]api.Errno{"CheckLot": api.ErrLot, "CheckDeed": api.ErrDeed, "Do": api.ErrDeed, "Without": api.ErrArg, "Commute": api.ErrArg, "Of": api.ErrArg, "Free": api.ErrArg, "Share": api.ErrLot, "Wet": api.ErrNone, "Trace": api.ErrLot, "Reach": api.ErrLot, "Apart": api.ErrLot}
	for _, f := range calls() {
		x, e := f.do(request{})
		if e != want[f.what] || !areNothing(x) && f.what != "Grades" {
			t.Errorf("%s of nothing: %v %d", f.what, x, e)
		}
	}
}

// TestSameAgain: what is told does not rest on the order of a map.
func TestSameAgain(t *testing.T) {
	for range 10 {
		for _, q := range withDeeds() {
			for _, f := range calls() {
				a, _ := f.do(q)
				b, _ := f.do(q)
				if !reflect.DeepEqual(a, b) {
					t.Errorf("%s: %v, then %v", f.what, a, b)
				}
			}
		}
	}
}
