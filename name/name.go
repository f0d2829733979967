// Package name is layer 2: names of suites, boards, groups and tests, as they stand in a report.
package name

import (
	"cmp"
	"strings"

	"colloquy/api"
	"colloquy/ascii"
)

const (
	maxWord  = 40 // bytes of a word
	codeSize = 3  // bytes of a written byte that doesn't stand for itself
)

// Right tells whether a text is a name.
func Right(s string) bool {
	return 1 <= len(s) && len(s) <= api.MaxName
}

// Write is a name written; the empty text, if it is no name.
func Write(s string) string {
	if !Right(s) {
		return ""
	}
	var out strings.Builder
	for at := range len(s) {
		c := s[at]
		if plain(c) || c == ' ' && 0 < at && at < len(s)-1 {
			out.WriteByte(c)
			continue
		}
		out.WriteByte('\\')
		out.WriteString(ascii.Hex(c))
	}
	return out.String()
}

// Read is the name that is written so; false: none is.
func Read(t string) (string, bool) {
	if len(t) > codeSize*api.MaxName {
		return "", false
	}
	s, ok := decode(t)
	// A name is written in one way only: what merely means the name is none.
	if !ok || !Right(s) || Write(s) != t {
		return "", false
	}
	return s, true
}

// Word tells whether a text is a word.
func Word(s string) bool {
	if len(s) < 1 || len(s) > maxWord || !ascii.Letter(s[0]) {
		return false
	}
	for at := range len(s) {
		if !ascii.InWord(s[at]) {
			return false
		}
	}
	return true
}

// Cmp is the order of names: -1, 0 or 1.
func Cmp(a, b string) int {
	// One place serves both texts: what lies behind it is the same in both.
	at := 0
	for at < len(a) && at < len(b) {
		size := 1
		order := cmp.Compare(a[at], b[at])
		if ascii.Digit(a[at]) && ascii.Digit(b[at]) {
			run := leadingDigits(a[at:])
			size = len(run)
			order = cmpRuns(run, leadingDigits(b[at:]))
		}
		if order != 0 {
			return order
		}
		at += size
	}
	return cmp.Compare(len(a), len(b))
}

// cmpRuns holds two runs of digits against each other, however long: without zeros ahead the longer run has the greater value.
func cmpRuns(a, b string) int {
	x, y := strings.TrimLeft(a, "0"), strings.TrimLeft(b, "0")
	if order := cmp.Compare(len(x), len(y)); order != 0 {
		return order
	}
	if order := strings.Compare(x, y); order != 0 {
		return order
	}
	return cmp.Compare(len(a), len(b))
}

func leadingDigits(s string) string {
	for at := range len(s) {
		if !ascii.Digit(s[at]) {
			return s[:at]
		}
	}
	return s
}

// decode puts each code's byte in its place; false: a backslash without two digits behind it.
func decode(t string) (string, bool) {
	var out strings.Builder
	for at := 0; at < len(t); at++ {
		if t[at] != '\\' {
			out.WriteByte(t[at])
			continue
		}
		if at+codeSize > len(t) {
			return "", false
		}
		high, low := ascii.HexValue(t[at+1]), ascii.HexValue(t[at+2])
		if high < 0 || low < 0 {
			return "", false
		}
		out.WriteByte(byte(high<<4 | low))
		at += codeSize - 1
	}
	return out.String(), true
}

func plain(c byte) bool {
	return '!' <= c && c <= '~' && c != '\\'
}
