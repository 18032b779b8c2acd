// Package desk is layer 9: a voyage with its ship, holds, tanks and rules, stages that surely keep the rules at each instant, the language of scripts, a desk that does its commands, and the bundle of a voyage that is checked alone (see shared/doc/09-desk.md).
package desk

import (
	"strings"

	"ullage/api"
)

// isBetween reports whether n is from least to most.
func isBetween(n, least, most int) bool { return least <= n && n <= most }

// isPrinted reports whether a byte may stand in a quoted word.
func isPrinted(b byte) bool { return isBetween(int(b), 0x20, 0x7e) }

// wrong is the panic of a line: its error, and the place of the byte that has it.
type wrong struct {
	at int
	e  api.Errno
}

// word is one of a line, with the place of its first byte; of a quoted one the text has `"` and what the word stands for.
type word struct {
	text string
	at   int
}

// isQuoted reports whether a word is a quoted one. No other word has a `"`.
func (w word) isQuoted() bool { return strings.HasPrefix(w.text, `"`) }

// cutter cuts a line into words.
type cutter struct {
	line string
	at   int // the next byte
}

// refuse leaves the cutter: this byte may not stand where it stands.
func (c *cutter) refuse(at int) { panic(wrong{at, api.ErrWord}) }

// isEnd reports whether a word may end ahead of a place.
func (c *cutter) isEnd(at int) bool { return at == len(c.line) || c.line[at] == ' ' }

// words passes all words.
func (c *cutter) words() []word {
	var l []word
	for c.at < len(c.line) {
		switch c.line[c.at] {
		case ' ':
			c.at++
		case '"':
			w := c.quoted()
			l = append(l, w)
		default:
			w := c.plain()
			l = append(l, w)
		}
	}
	return l
}

// plain passes a word without quotes.
func (c *cutter) plain() word {
	start := c.at
	for !c.isEnd(c.at) {
		if b := c.line[c.at]; b == '"' || !isPrinted(b) {
			c.refuse(c.at)
		}
		c.at++
	}
	return word{c.line[start:c.at], start}
}

// quoted passes a quoted word.
func (c *cutter) quoted() word {
	start := c.at
	text := []byte{'"'}
	c.at++
	for c.at < len(c.line) {
		switch b := c.line[c.at]; {
		case b == '"':
			c.at++
			if !c.isEnd(c.at) {
				c.refuse(c.at)
			}
			return word{string(text), start}
		case b == '\\':
			text = append(text, c.escaped())
			c.at += 2
		case isPrinted(b):
			text = append(text, b)
			c.at++
		default:
			c.refuse(c.at)
		}
	}
	c.refuse(start)
	return word{}
}

// escaped is what the next byte, which is a `\`, stands for together with the one behind it.
func (c *cutter) escaped() byte {
	if c.at+1 < len(c.line) {
		switch b := c.line[c.at+1]; b {
		case '"', '\\':
			return b
		case 'n':
			return '\n'
		}
	}
	c.refuse(c.at)
	return 0
}

// wordsOf are the words of a line. What is wrong leaves by a panic.
func wordsOf(line string) []word {
	if len(line) > api.MaxLine {
		panic(wrong{0, api.ErrLong})
	}
	c := &cutter{line: line}
	l := c.words()
	if len(l) > api.MaxWords {
		panic(wrong{0, api.ErrLong})
	}
	return l
}

// Words parts a line into words.
func Words(line string) (words []string, at int, e api.Errno) {
	defer func() {
		if w, ok := recover().(wrong); ok {
			words, at, e = nil, w.at, w.e
		}
	}()
	for _, w := range wordsOf(line) {
		words = append(words, w.text)
	}
	return words, 0, api.OK
}

// Quote makes a word of a text.
func Quote(s string) string {
	var b strings.Builder
	b.WriteByte('"')
	for i := range len(s) {
		switch {
		case s[i] == '\n':
			b.WriteString(`\n`)
		case s[i] == '"' || s[i] == '\\':
			b.WriteByte('\\')
			b.WriteByte(s[i])
		case isPrinted(s[i]):
			b.WriteByte(s[i])
		default:
			return ""
		}
	}
	b.WriteByte('"')
	return b.String()
}
