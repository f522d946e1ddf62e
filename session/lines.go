package session

import (
	"strconv"
	"strings"
)

// blanks part words; a byte 10 doesn't.
const blanks = "\t\r "

// linesOf parts a script; an end of line at its end begins no further one.
func linesOf(script string) []string {
	lines := strings.Split(script, "\n")
	last := len(lines) - 1
	if lines[last] == "" {
		return lines[:last]
	}
	return lines
}

// cutWord answers the first word, and all that stands behind it; two empty texts, if there is none.
func cutWord(line string) (word, rest string) {
	line = strings.TrimLeft(line, blanks)
	end := strings.IndexAny(line, blanks)
	if end < 0 {
		end = len(line)
	}
	return line[:end], line[end:]
}

// textOf answers what stands behind the blank that ends a word: nothing, if that is no byte 32.
func textOf(rest string) string {
	text, ok := strings.CutPrefix(rest, " ")
	if !ok {
		return ""
	}
	return text
}

// number reads a word; false, if it is not how a number is written.
func number(word string) (int, bool) {
	n, err := strconv.Atoi(word)
	return n, err == nil && strconv.Itoa(n) == word
}

// one takes all of a text.
func one(text string) ([]string, bool) { return []string{text}, true }

// two parts a text at the first bar; false, if it has none.
func two(text string) ([]string, bool) {
	first, second, ok := strings.Cut(text, "|")
	return []string{first, second}, ok
}
