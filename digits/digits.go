// Package digits is layer 1: numbers and words of a line: see shared/doc/01-digits.md.
package digits

import (
	"strconv"
	"strings"
)

// Parse reads a number, at most so great.
func Parse(s string, most int) (int, bool) {
	n := 0
	for _, letter := range s {
		if letter < '0' || letter > '9' {
			return 0, false
		}
		digit := int(letter - '0')
		// Asked ahead of the step: a number beyond most may be one that no int has.
		if digit > most || n > (most-digit)/10 {
			return 0, false
		}
		n = n*10 + digit
	}
	return n, s != ""
}

// Print writes a number.
func Print(n int) string {
	if n < 0 {
		return ""
	}
	return strconv.Itoa(n)
}

// Word tells whether a text is a word.
func Word(s string) bool {
	for _, letter := range s {
		if letter < '!' || letter > '~' {
			return false
		}
	}
	return s != ""
}

// Split tells the words of a line.
func Split(line string) ([]string, bool) {
	var words []string
	start := 0
	for i, letter := range line {
		if letter != ' ' {
			continue
		}
		if !Word(line[start:i]) {
			return nil, false
		}
		words = append(words, line[start:i])
		start = i + 1
	}
	// No blank stands behind the last piece, so the range has not told it.
	if !Word(line[start:]) {
		return nil, false
	}
	return append(words, line[start:]), true
}

// Join makes a line of words.
func Join(words []string) (string, bool) {
	for _, word := range words {
		if !Word(word) {
			return "", false
		}
	}
	return strings.Join(words, " "), len(words) > 0
}
