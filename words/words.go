// Package words holds the suite language's words for the kinds of steps, clauses and tests: suite and print stand on it.
package words

import "colloquy/api"

// Step is the word of a kind of step; the empty text: there is no such kind.
func Step(kind int) string {
	switch kind {
	case api.Send:
		return "send"
	case api.Expect:
		return "expect"
	case api.Loop:
		return "loop"
	case api.Near:
		return "near"
	case api.Pass:
		return "pass"
	case api.Fail:
		return "fail"
	case api.Wait:
		return "wait"
	}
	return ""
}

// Clause is the word of a kind of clause; the empty text: there is no such kind.
func Clause(kind int) string {
	switch kind {
	case api.Exact:
		return "exact"
	case api.Glob:
		return "glob"
	case api.Regex:
		return "regex"
	case api.Late:
		return "late"
	case api.Eof:
		return "eof"
	case api.Death:
		return "death"
	case api.Full:
		return "full"
	}
	return ""
}

// HasText tells whether a clause of a kind looks for a text.
func HasText(kind int) bool {
	return kind == api.Exact || kind == api.Glob || kind == api.Regex
}

// Test is the word of what is declared of a test that isn't run; the empty text: there is no such kind.
func Test(kind int) string {
	switch kind {
	case api.Untested:
		return "untested"
	case api.Unsupported:
		return "unsupported"
	}
	return ""
}

// Kind is the kind that has a word among those that of tells, which begin at 1; 0: there is none.
func Kind(word string, of func(kind int) string) int {
	for kind := 1; of(kind) != ""; kind++ {
		if of(kind) == word {
			return kind
		}
	}
	return 0
}
