package rule_test

import (
	"math/rand"
	"slices"
	"testing"

	"ullage/api"
	"ullage/rule"
)

func TestInForce(t *testing.T) {
	for day, want := range map[int][]int{0: {0, 2}, 49: {0, 2}, 50: {0, 1, 2}, 99: {0, 1, 2}, 100: {1, 2}, 200: {1, 2}, 201: nil, api.MaxDay: nil} {
		if got, e := rule.InForce(exampleC(), day); !slices.Equal(got, want) || e != api.OK {
			t.Errorf("the day %d: %v %d, want %v", day, got, e, want)
		}
	}
	trials(65, 200, func(_ *rand.Rand, c api.Code) {
		for _, day := range someDays() {
			var want []int
			for i, r := range c.Rules {
				if r.From <= day && day <= r.To {
					want = append(want, i)
				}
			}
			if got, e := rule.InForce(c, day); !slices.Equal(got, want) || e != api.OK {
				t.Errorf("%v on the day %d: %v %d, want %v", c, day, got, e, want)
			}
		}
	})
}

func TestDays(t *testing.T) {
	days := func(l ...int) api.Code {
		c := exampleC()
		c.Rules = nil
		for i := 0; i < len(l); i += 2 {
			c.Rules = append(c.Rules, manyRules(i/2 + 1)[i/2])
			c.Rules[i/2].From, c.Rules[i/2].To = l[i], l[i+1]
		}
		return c
	}
	for _, x := range []struct {
		c    api.Code
		want []int
	}{
		{exampleC(), []int{0, 50, 100, 201}},
		{days(), []int{0}},
		{days(0, api.MaxDay), []int{0}},
		{days(1, api.MaxDay), []int{0, 1}},
		{days(0, api.MaxDay-1), []int{0, api.MaxDay}},
		{days(api.MaxDay, api.MaxDay), []int{0, api.MaxDay}},
		{days(5, 5, 5, 5, 6, 6), []int{0, 5, 6, 7}},
		{days(7, 9, 0, 3, 4, 6), []int{0, 4, 7, 10}},
	} {
		if got, e := rule.Days(x.c); !slices.Equal(got, x.want) || e != api.OK {
			t.Errorf("%v: %v %d, want %v", x.c.Rules, got, e, x.want)
		}
	}
	trials(66, 200, func(_ *rand.Rand, c api.Code) {
		var want []int
		for _, day := range someDays() {
			if day == 0 || slices.ContainsFunc(c.Rules, func(r api.Rule) bool { return r.From == day || r.To == day-1 }) {
				want = append(want, day)
			}
		}
		if got, e := rule.Days(c); !slices.Equal(got, want) || e != api.OK {
			t.Errorf("%v: %v %d, want %v", c, got, e, want)
		}
	})
}

func equalLists(a, b [][]int) bool { return slices.EqualFunc(a, b, slices.Equal[[]int]) }

func TestCells(t *testing.T) {
	parted := func(value api.Range, l ...api.Term) api.Code {
		return api.Code{Name: "x", Facts: []api.Fact{{Name: "a", Value: value}}, Rules: []api.Rule{{Name: "r", When: termsOf(append(l, api.Term{})...), Must: always()}}}
	}
	for _, x := range []struct {
		c    api.Code
		want [][]int
	}{
		{exampleC(), [][]int{{0, 9001, 9201, 9501}, {0, 10}}},
		{api.Code{Name: "x", Facts: exampleC().Facts}, [][]int{{0}, {0}}},
		{parted(span(1, 9), less("a", 5)), [][]int{{1, 5}}}, {parted(span(1, 9), most("a", 5)), [][]int{{1, 6}}}, {parted(span(1, 9), is("a", 5)), [][]int{{1, 5, 6}}},
		{parted(span(1, 9), is("a", 5), less("a", 5), most("a", 5), less("a", 6), is("a", 4)), [][]int{{1, 4, 5, 6}}},
		// at the ends
		{parted(span(1, 9), less("a", 1)), [][]int{{1}}}, {parted(span(1, 9), less("a", 2)), [][]int{{1, 2}}}, {parted(span(1, 9), less("a", 9)), [][]int{{1, 9}}}, {parted(span(1, 9), less("a", 10)), [][]int{{1}}},
		{parted(span(1, 9), most("a", 0)), [][]int{{1}}}, {parted(span(1, 9), most("a", 1)), [][]int{{1, 2}}}, {parted(span(1, 9), most("a", 8)), [][]int{{1, 9}}}, {parted(span(1, 9), most("a", 9)), [][]int{{1}}},
		{parted(span(1, 9), is("a", 0)), [][]int{{1}}}, {parted(span(1, 9), is("a", 1)), [][]int{{1, 2}}}, {parted(span(1, 9), is("a", 9)), [][]int{{1, 9}}}, {parted(span(1, 9), is("a", 10)), [][]int{{1}}},
		{parted(one(5), is("a", 5), less("a", 5), most("a", 4), less("a", 6)), [][]int{{5}}},
		{parted(span(-api.MaxValue, api.MaxValue), is("a", api.MaxValue), is("a", -api.MaxValue)), [][]int{{-api.MaxValue, 1 - api.MaxValue, api.MaxValue}}},
	} {
		if got, e := rule.Cells(x.c); !equalLists(got, x.want) || e != api.OK {
			t.Errorf("%v: %v %d, want %v", x.c, got, e, x.want)
		}
	}
	trials(67, 300, func(_ *rand.Rand, c api.Code) {
		want := wantCells(c)
		if got, e := rule.Cells(c); !equalLists(got, want) || e != api.OK {
			t.Errorf("%v: %v %d, want %v", c, got, e, want)
		}
	})
}
