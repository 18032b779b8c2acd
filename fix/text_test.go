package fix_test

import (
	"math/rand"
	"slices"
	"strings"
	"testing"

	"ullage/api"
	"ullage/fix"
)

func TestPrint(t *testing.T) {
	for _, x := range []struct {
		t    api.Table
		want string
	}{
		{exampleU(), "5 1 2\n20 1 4\n"},
		{exampleT(), "0 0 0\n10 5 8\n40 20 20\n"},
		{tableOf([3]int{api.MaxX, -api.MaxY, api.MaxY}), "1000000 -1000000000 1000000000\n"},
		{tableOf([3]int{0, -7, -1}, [3]int{3, -1, 0}), "0 -7 -1\n3 -1 0\n"},
	} {
		s, e := fix.Print(x.t)
		expect(t, "Print", s, e, x.want, api.OK)
	}
}

// TestParseOfPrint is P1.7.
func TestParseOfPrint(t *testing.T) {
	for _, x := range append(randomTables(rand.New(rand.NewSource(11)), 100), flat(api.MaxX-api.MaxPoints+1, api.MaxPoints, -api.MaxY, api.MaxY)) {
		s, e := fix.Print(x)
		if e != api.OK {
			t.Fatalf("Print(%v) = %d", x, e)
		}
		got, line, e := fix.Parse(s)
		if !slices.Equal(got.Points, x.Points) || line != 0 || e != api.OK {
			t.Errorf("Parse of Print of %v = %v, %d, %d", x, got, line, e)
		}
	}
}

func TestParse(t *testing.T) {
	u := exampleU()
	for _, x := range []struct {
		text string
		want api.Table
	}{
		{"5 1 2\n20 1 4\n", u},
		{"5 1 2\n20 1 4", u},
		{"# a table\n\n5 1 2\n   \n#\n20 1 4\n\n#20 1 4 7", u},
		{"   5  1    2 \n 20 1 4   ", u},
		{"0 -1000000000 1000000000", tableOf([3]int{0, -api.MaxY, api.MaxY})},
		{"1000000 0 0\n", flat(api.MaxX, 1, 0, 0)},
		{"#\t\r\xff\x00\n7 -3 -2", flat(7, 1, -3, -2)},
	} {
		got, line, e := fix.Parse(x.text)
		if !slices.Equal(got.Points, x.want.Points) || line != 0 || e != api.OK {
			t.Errorf("Parse(%q) = %v, %d, %d; expected %v", x.text, got, line, e, x.want)
		}
	}
}

func TestTextsOfTheWrongForm(t *testing.T) {
	for _, x := range []struct {
		text string
		line int
		e    api.Errno
	}{
		// no line says anything
		{"", 1, api.ErrText},
		{"\n", 2, api.ErrText},
		{"\n\n", 3, api.ErrText},
		{"#", 2, api.ErrText},
		{"#\n", 2, api.ErrText},
		{"#\n ", 3, api.ErrText},
		{"   ", 2, api.ErrText},
		{"\n#\n", 3, api.ErrText},
		// the wrong number of words
		{"1", 1, api.ErrText},
		{"1 2", 1, api.ErrText},
		{"1 2 3 4", 1, api.ErrText},
		{"1 2 3 #", 1, api.ErrText},
		{" # 1 2", 1, api.ErrText},
		{" #", 1, api.ErrText},
		{"1\t2\t3", 1, api.ErrText},
		{"1 2\t3", 1, api.ErrText},
		// words that are no numbers
		{"1 2 3\r\n2 3 4", 1, api.ErrText},
		{"\t", 1, api.ErrText},
		{"1 2 3\x00", 1, api.ErrText},
		{"1 2 \u00b3", 1, api.ErrText},
		{"1 2 \u0663", 1, api.ErrText},
		{"1\u00a02 2 3", 1, api.ErrText},
		{"x 2 3", 1, api.ErrText},
		{"1 2 3x", 1, api.ErrText},
		{"1 0x2 3", 1, api.ErrText},
		{"1 2 1_0", 1, api.ErrText},
		{"1 2 3.0", 1, api.ErrText},
		{"1 2 1e3", 1, api.ErrText},
		{"1 - 3", 1, api.ErrText},
		{"1 --2 3", 1, api.ErrText},
		{"1 2- 3", 1, api.ErrText},
		// signs and zeros
		{"-1 2 3", 1, api.ErrText},
		{"-0 2 3", 1, api.ErrText},
		{"1 -0 3", 1, api.ErrText},
		{"1 -1 -0", 1, api.ErrText},
		{"+1 2 3", 1, api.ErrText},
		{"1 +2 3", 1, api.ErrText},
		{"1 2 +3", 1, api.ErrText},
		{"01 2 3", 1, api.ErrText},
		{"1 00 3", 1, api.ErrText},
		{"1 2 03", 1, api.ErrText},
		{"1 -02 3", 1, api.ErrText},
		// digits
		{"9999999999 0 0", 0, api.ErrTable},
		{"0 -9999999999 0", 0, api.ErrTable},
		{"0 0 9999999999", 0, api.ErrTable},
		{"10000000000 0 0", 1, api.ErrText},
		{"0 -10000000000 0", 1, api.ErrText},
		{"0 0 10000000000", 1, api.ErrText},
		{"0 0 9223372036854775807", 1, api.ErrText},
		{"0 -9223372036854775808 0", 1, api.ErrText},
		{"0 0 18446744073709551617", 1, api.ErrText},
		{"0 0 00000000001", 1, api.ErrText},
		// which line
		{"1 2 3\n4 5", 2, api.ErrText},
		{"# 1\n\n1 2 3\n4 x 6\n7 8", 4, api.ErrText},
		{"1 2 3\n\n2 2 3\n3 +2 3\n", 4, api.ErrText},
		// points that are no table
		{"1 3 2", 0, api.ErrTable},
		{"1 2 3\n1 2 3", 0, api.ErrTable},
		{"2 2 3\n1 2 3", 0, api.ErrTable},
		{"1000001 0 0", 0, api.ErrTable},
		{"0 0 1000000001", 0, api.ErrTable},
		{"0 -1000000001 0", 0, api.ErrTable},
		{"1 3 2\n4 5", 2, api.ErrText},
	} {
		got, line, e := fix.Parse(x.text)
		if len(got.Points) > 0 || line != x.line || e != x.e {
			t.Errorf("Parse(%q) = %v, %d, %d; expected %d, %d", x.text, got, line, e, x.line, x.e)
		}
	}
}

func TestLongTexts(t *testing.T) {
	good := "5 1 2\n20 1 4\n"
	most := good + "#" + strings.Repeat("x", api.MaxText-len(good)-1)
	if got, line, e := fix.Parse(most); !slices.Equal(got.Points, exampleU().Points) || line != 0 || e != api.OK {
		t.Errorf("Parse of MaxText bytes = %v, %d, %d", got, line, e)
	}
	for _, text := range []string{most + "x", most + "\n", strings.Repeat("\n", api.MaxText+1), strings.Repeat("x", api.MaxText+1), strings.Repeat("1 3 2\n", api.MaxText)} {
		if got, line, e := fix.Parse(text); len(got.Points) > 0 || line != 0 || e != api.ErrLong {
			t.Errorf("Parse of %d bytes = %v, %d, %d; expected ErrLong", len(text), got, line, e)
		}
	}
	if _, line, e := fix.Parse(strings.Repeat("\n", api.MaxText)); line != api.MaxText+1 || e != api.ErrText {
		t.Errorf("Parse of line feeds = %d, %d", line, e)
	}
	var b strings.Builder
	x := flat(0, api.MaxPoints, 1, 2)
	s, _ := fix.Print(x)
	b.WriteString(s)
	if got, line, e := fix.Parse(b.String()); !slices.Equal(got.Points, x.Points) || line != 0 || e != api.OK {
		t.Errorf("Parse of MaxPoints points = %v, %d, %d", got, line, e)
	}
	b.WriteString("40 1 2\n")
	if got, line, e := fix.Parse(b.String()); len(got.Points) > 0 || line != 0 || e != api.ErrTable {
		t.Errorf("Parse of more points = %v, %d, %d", got, line, e)
	}
	b.WriteString("x\n")
	if got, line, e := fix.Parse(b.String()); len(got.Points) > 0 || line != api.MaxPoints+2 || e != api.ErrText {
		t.Errorf("Parse of more points and a wrong line = %v, %d, %d", got, line, e)
	}
}
