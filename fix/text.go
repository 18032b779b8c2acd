package fix

import (
	"strconv"
	"strings"

	"ullage/api"
)

// longest is the greatest number of 10 digits.
const longest = 9999999999

// Print writes a table as a text.
func Print(t api.Table) (string, api.Errno) {
	if CheckTable(t) != api.OK {
		return "", api.ErrTable
	}
	var b strings.Builder
	for _, p := range t.Points {
		b.WriteString(strconv.Itoa(p.X) + " " + strconv.Itoa(p.Lo) + " " + strconv.Itoa(p.Hi) + "\n")
	}
	return b.String(), api.OK
}

// wrong is the panic of a text of the wrong form: the number of the line.
type wrong struct{ line int }

// Parse reads a table's text.
func Parse(text string) (t api.Table, line int, e api.Errno) {
	defer func() {
		if w, ok := recover().(wrong); ok {
			t, line, e = api.Table{}, w.line, api.ErrText
		}
	}()
	if len(text) > api.MaxText {
		return api.Table{}, 0, api.ErrLong
	}
	t = api.Table{Points: readPoints(text)}
	if CheckTable(t) != api.OK {
		return api.Table{}, 0, api.ErrTable
	}
	return t, 0, api.OK
}

// readPoints reads the points of a text.
func readPoints(text string) []api.Point {
	var l []api.Point
	n := 0
	for text != "" {
		var line string
		line, text, _ = strings.Cut(text, "\n")
		n++
		words := strings.FieldsFunc(line, func(r rune) bool { return r == ' ' })
		if len(words) > 0 && line[0] != '#' {
			l = append(l, readPoint(words, n))
		}
	}
	if len(l) == 0 {
		panic(wrong{n + 1})
	}
	return l
}

// readPoint makes a point of the words of a line.
func readPoint(words []string, line int) api.Point {
	if len(words) != 3 {
		panic(wrong{line})
	}
	var n [3]int
	for i, w := range words {
		n[i] = readNumber(w, line)
	}
	if n[0] < 0 {
		panic(wrong{line})
	}
	return api.Point{X: n[0], Lo: n[1], Hi: n[2]}
}

// readNumber reads a number. It has the right form exactly if it is written again in the same way.
func readNumber(word string, line int) int {
	n, err := strconv.Atoi(word)
	if err != nil || strconv.Itoa(n) != word || !Has(around(longest), n) {
		panic(wrong{line})
	}
	return n
}
