// Package cursor goes through a pattern from the left: the parsers of glob and rex stand on it.
package cursor

import (
	"strings"

	"colloquy/api"
)

// Cursor is a pattern, and the place in it that comes next.
type Cursor struct {
	text string
	at   int
}

// Tree is what parse makes of a whole pattern; the error and the place of the api.Flaw that it panics with, if it does.
func Tree(pattern string, parse func(*Cursor) api.Node) (n api.Node, code api.Errno, at int) {
	defer func() {
		if wrong := recover(); wrong != nil {
			flaw := wrong.(api.Flaw)
			n, code, at = api.Node{}, flaw.Code, flaw.At
		}
	}()
	if len(pattern) > api.MaxPattern {
		panic(api.Flaw{Code: api.ErrLong})
	}
	return parse(&Cursor{text: pattern}), api.OK, 0
}

// At is the place that comes next.
func (c *Cursor) At() int {
	return c.at
}

// Over tells whether nothing comes any more.
func (c *Cursor) Over() bool {
	return c.at == len(c.text)
}

// Is tells whether a text comes next.
func (c *Cursor) Is(text string) bool {
	return strings.HasPrefix(c.text[c.at:], text)
}

// Skip goes behind a text, if that comes next, and tells whether it does.
func (c *Cursor) Skip(text string) bool {
	if !c.Is(text) {
		return false
	}
	c.at += len(text)
	return true
}

// Take goes behind the byte that comes next; it panics, if there is none.
func (c *Cursor) Take() byte {
	if c.Over() {
		panic(api.Flaw{Code: api.ErrEnd, At: c.at})
	}
	c.at++
	return c.text[c.at-1]
}

// Range takes an item of a class, whose bytes letter takes; it panics, if that is a range that goes back.
func (c *Cursor) Range(letter func(*Cursor) byte) api.Range {
	from := c.at
	lo := letter(c)
	hi := lo
	if !c.Is("-]") && c.Skip("-") { // a - that the class ends behind is a byte
		hi = letter(c)
	}
	if hi < lo {
		panic(api.Flaw{Code: api.ErrRange, At: from})
	}
	return api.Range{Lo: lo, Hi: hi}
}
