package parcel

import (
	"strconv"
	"strings"

	"ullage/api"
)

// longest is the greatest number of 9 digits.
const longest = 999999999

// lineOf is a line of a text: a word, and numbers.
func lineOf(word string, numbers ...int) string {
	for _, n := range numbers {
		word += " " + strconv.Itoa(n)
	}
	return word + "\n"
}

// Print writes a stock as a text.
func Print(s api.Stock) (string, api.Errno) {
	if e := Check(s); e != api.OK {
		return "", e
	}
	var b strings.Builder
	for _, x := range s.Lots {
		b.WriteString(lineOf("lot", x.Id, x.Owner, x.Grade, x.Wet))
	}
	for hold, heaps := range s.Holds {
		for _, h := range heaps {
			numbers := []int{hold}
			for _, p := range h.Parts {
				numbers = append(numbers, p.Lot, p.Mass)
			}
			b.WriteString(lineOf("heap", numbers...))
		}
	}
	return b.String(), api.OK
}

// wrong is the panic of a text of the wrong form: the number of the line.
type wrong struct{ line int }

// Parse reads a stock's text.
func Parse(text string) (s api.Stock, line int, e api.Errno) {
	defer func() {
		if w, ok := recover().(wrong); ok {
			s, line, e = api.Stock{}, w.line, api.ErrText
		}
	}()
	if len(text) > api.MaxStock {
		return api.Stock{}, 0, api.ErrLong
	}
	s = readStock(text)
	if e := Check(s); e != api.OK {
		return api.Stock{}, 0, e
	}
	return s, 0, api.OK
}

// readStock reads the lines of a stock, which need not be valid.
func readStock(text string) api.Stock {
	var s api.Stock
	n := 0
	for text != "" {
		var line string
		line, text, _ = strings.Cut(text, "\n")
		n++
		words := strings.FieldsFunc(line, func(r rune) bool { return r == ' ' })
		if len(words) > 0 && line[0] != '#' {
			readLine(&s, words, n)
		}
	}
	return s
}

// readLine adds to a stock what a line says.
func readLine(s *api.Stock, words []string, line int) {
	var n []int
	for _, w := range words[1:] {
		n = append(n, readNumber(w, line))
	}
	switch {
	case words[0] == "lot" && len(n) == 4:
		s.Lots = append(s.Lots, api.Lot{Id: n[0], Owner: n[1], Grade: n[2], Wet: n[3]})
	case words[0] == "heap" && len(n) >= 3 && len(n)%2 == 1 && isHold(n[0]):
		s.Holds[n[0]] = append(s.Holds[n[0]], heapOf(n[1:]))
	default:
		panic(wrong{line})
	}
}

// heapOf makes a heap of numbers: of each part its lot and its mass.
func heapOf(numbers []int) api.Heap {
	var h api.Heap
	for i := 0; i < len(numbers); i += 2 {
		h.Parts = append(h.Parts, api.Part{Lot: numbers[i], Mass: numbers[i+1]})
	}
	return h
}

// readNumber reads a number. It has the right form exactly if it is written again in the same way.
func readNumber(word string, line int) int {
	n, err := strconv.Atoi(word)
	if err != nil || strconv.Itoa(n) != word || !isBetween(n, 0, longest) {
		panic(wrong{line})
	}
	return n
}
