package parcel_test

import (
	"strconv"
	"strings"
	"testing"

	"ullage/api"
	"ullage/parcel"
)

const exampleText = "lot 1 1 1 1300\nlot 2 2 1 1500\nlot 3 1 2 1000\nheap 0 1 24 2 16\nheap 4 1 6 2 4 3 10\n"

func exampleStock() api.Stock {
	return at(stock(heap(1, 24, 2, 16)), 4, heap(1, 6, 2, 4, 3, 10))
}

func TestPrint(t *testing.T) {
	for _, x := range []struct {
		s    api.Stock
		want string
	}{
		{exampleStock(), exampleText},
		{api.Stock{}, ""},
		{stock(), "lot 1 1 1 1300\nlot 2 2 1 1500\nlot 3 1 2 1000\n"},
		{at(stock(heap(3, 1), heap(1, api.MaxMass-1)), 8, heap(2, 7), heap(1, 7)), "lot 1 1 1 1300\nlot 2 2 1 1500\nlot 3 1 2 1000\nheap 0 3 1\nheap 0 1 99999999\nheap 8 2 7\nheap 8 1 7\n"},
		{api.Stock{Lots: []api.Lot{{Id: 9999, Owner: 9, Grade: 9, Wet: 10000}, {Id: 0}}[:1]}, "lot 9999 9 9 10000\n"},
		{api.Stock{Lots: []api.Lot{{Id: 1, Owner: 1, Grade: 1}}}, "lot 1 1 1 0\n"},
	} {
		if s, e := parcel.Print(x.s); s != x.want || e != api.OK {
			t.Errorf("Print(%v) = %q, %d", x.s, s, e)
		}
	}
	if s, e := parcel.Print(stock(heap())); s != "" || e != api.ErrStock {
		t.Error(s, e)
	}
}

func expectParse(t *testing.T, text string, want api.Stock, line int, e api.Errno) {
	t.Helper()
	s, l, f := parcel.Parse(text)
	if !sameStock(s, want) || l != line || f != e {
		t.Errorf("Parse(%.300q) = %v, %d, %d; expected %v, %d, %d", text, s, l, f, want, line, e)
	}
}

func TestParse(t *testing.T) {
	one := at(api.Stock{Lots: []api.Lot{{Id: 7, Owner: 1, Grade: 1}}}, 8, heap(7, 5))
	for _, x := range []struct {
		text string
		want api.Stock
	}{
		{exampleText, exampleStock()},
		{strings.TrimSuffix(exampleText, "\n"), exampleStock()},
		{"", api.Stock{}}, {"\n", api.Stock{}}, {"# nothing\n\n   \n#", api.Stock{}},
		{"heap 8 7 5\n\n# lots\n lot 7 1 1 0", one},
		{"#\t\r\xff\x00\nlot 7 1 1 0\n#lot 8 1 1 0\n\n   heap   8  7    5   \n\n", one},
		// lines of both kinds in any order, and heaps of a hold in theirs
		{"heap 4 1 6 2 4 3 10\nlot 1 1 1 1300\nheap 0 1 24 2 16\nlot 2 2 1 1500\nlot 3 1 2 1000", exampleStock()},
		{"lot 1 1 1 1300\nlot 2 2 1 1500\nlot 3 1 2 1000\nheap 2 3 1\nheap 0 2 1\nheap 2 1 100\nheap 0 3 2\nheap 0 1 3\n", at(stock(heap(2, 1), heap(3, 2), heap(1, 3)), 2, heap(3, 1), heap(1, 100))},
	} {
		expectParse(t, x.text, x.want, 0, api.OK)
	}
}

func TestLinesOfTheWrongForm(t *testing.T) {
	for _, line := range []string{
		"x", "lots 7 1 1 0", "Lot 7 1 1 0", "lot", "lot 7", "lot 7 1", "lot 7 1 1", "lot 7 1 1 0 0", "lot 7 1 1 0 #", "7 1 1 0", "lot 7 lot 8", "lot7 1 1 0",
		"heaps 8 7 5", "Heap 8 7 5", "heap", "heap 8", "heap 8 7", "heap 8 7 5 9", "heap 8 7 5 9 9 9", "heap 8 7 5 #", "heap 8 7 5 x 9", "8 7 5", "heap 7 5 8 5",
		"heap 9 7 5", "heap 10 7 5", "heap 999999999 7 5", "heap -1 7 5", "heap x 7 5", "heap 9", "heap 00 7 5", "heap 08 7 5", "heap -0 7 5",
		" #", " # lot 7 1 1 0", "\t", "\r", "lot 7 1 1 0\r", "lot\t7 1 1 0", "lot 7 1\t1 0", "lot 7 1 1 0\x00", "lot 7 1 1\u00a00", "\xff", "heap 8 7 5\x0b",
		"lot 07 1 1 0", "lot 7 01 1 0", "lot 7 1 01 0", "lot 7 1 1 00", "lot +7 1 1 0", "lot 7 +1 1 0", "lot 7 1 1 +0", "lot -7 1 1 0", "lot 7 -1 1 0", "lot 7 1 -1 0", "lot 7 1 1 -0", "lot 7 1 1 -5", "lot x 1 1 0", "lot 7 1 1 0x0", "lot 7 1 1 1_0", "lot 7 1 1 1.0", "lot 7 1 1 1e1", "lot 7 1 1 -", "lot 7 1 1 +", "lot 7 1 1 \u0663", "lot \u00b3 1 1 0",
		"lot 1000000000 1 1 0", "lot 7 1000000000 1 0", "lot 7 1 1 1000000000", "lot 7 1 1 9223372036854775807", "lot 7 1 1 18446744073709551616", "lot 7 1 1 0000000001",
		"heap 8 07 5", "heap 8 7 05", "heap 8 +7 5", "heap 8 7 +5", "heap 8 -7 5", "heap 8 7 -5", "heap 8 7 -0", "heap 8 1000000000 5", "heap 8 7 1000000000", "heap 8 7 18446744073709551621", "heap 8 7 5.", "heap 8 7,5", "heap 8 7 5 8 09",
	} {
		expectParse(t, line, api.Stock{}, 1, api.ErrText)
		expectParse(t, exampleText+line, api.Stock{}, 6, api.ErrText)
		expectParse(t, "\n#\n\nlot 7 1 1 0\n"+line+"\nheap 8 7 5\n", api.Stock{}, 5, api.ErrText)
		// The first line decides, also ahead of what makes the stock invalid.
		expectParse(t, "lot 7 1 1 0\nlot 7 1 1 0\nheap 8 9 0\n"+line+"\nx\n", api.Stock{}, 4, api.ErrText)
		expectParse(t, "\n"+line+"\n"+line, api.Stock{}, 2, api.ErrText)
	}
}

// TestTextsOfNoStock: lines of the right form, but not of a valid stock.
func TestTextsOfNoStock(t *testing.T) {
	for _, text := range []string{
		"heap 0 1 1", "lot 0 1 1 0", "lot 10000 1 1 0", "lot 999999999 1 1 0", "lot 7 0 1 0", "lot 7 10 1 0", "lot 7 1 0 0", "lot 7 1 10 0", "lot 7 1 1 10001", "lot 7 1 1 999999999",
		"lot 7 1 1 0\nlot 7 1 1 0", "lot 8 1 1 0\nlot 7 1 1 0", exampleText + "lot 3 1 1 0\n", exampleText + "lot 0 1 1 0\n",
		exampleText + "heap 4 4 1", exampleText + "heap 4 1 0", exampleText + "heap 4 0 1", exampleText + "heap 4 1 1 1 1", exampleText + "heap 4 2 1 1 1", exampleText + "heap 4 1 99999981", exampleText + "heap 5 1 100000001", exampleText + "heap 5 1 999999999 2 999999999",
		exampleText + strings.Repeat("heap 4 1 1\n", 4), exampleText + strings.Repeat("heap 8 1 1\n", 5),
	} {
		expectParse(t, text, api.Stock{}, 0, api.ErrStock)
	}
	var b strings.Builder
	for i := range api.MaxLots + 1 {
		b.WriteString("lot " + strconv.Itoa(i+1) + " 1 1 0\n")
	}
	expectParse(t, b.String(), api.Stock{}, 0, api.ErrStock)
	b.WriteString("lots\n")
	expectParse(t, b.String(), api.Stock{}, api.MaxLots+2, api.ErrText)
}

func TestLongTexts(t *testing.T) {
	most := exampleText + "#" + strings.Repeat("x", api.MaxStock-len(exampleText)-1)
	expectParse(t, most, exampleStock(), 0, api.OK)
	expectParse(t, strings.Repeat("\n", api.MaxStock), api.Stock{}, 0, api.OK)
	expectParse(t, strings.Repeat(" ", api.MaxStock), api.Stock{}, 0, api.OK)
	expectParse(t, strings.Repeat("x", api.MaxStock), api.Stock{}, 1, api.ErrText)
	expectParse(t, strings.Repeat("\n", api.MaxStock-1)+"x", api.Stock{}, api.MaxStock, api.ErrText)
	expectParse(t, "heap 0"+strings.Repeat(" 1 1", 9990), api.Stock{}, 0, api.ErrStock)
	for _, text := range []string{most + "x", most + "\n", strings.Repeat("\n", api.MaxStock+1), strings.Repeat("x", api.MaxStock+1), strings.Repeat("heap 0 1 1\n", api.MaxStock)} {
		expectParse(t, text, api.Stock{}, 0, api.ErrLong)
	}
}

// TestParseOfPrint is P6.6.
func TestParseOfPrint(t *testing.T) {
	l := append(randomStocks(76, 300), greatestStock(), exampleStock(), fullStock(), ownersStock())
	for _, x := range randomHistories(77, 100) {
		s, _, _ := parcel.Play(x.lots, x.deeds)
		l = append(l, s)
	}
	for _, s := range l {
		text, e := parcel.Print(s)
		if e != api.OK || len(text) > api.MaxStock {
			t.Error(s, len(text), e)
		}
		expectParse(t, text, s, 0, api.OK)
	}
}
