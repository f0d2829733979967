package suite

import (
	"math"

	"colloquy/api"
	"colloquy/words"
)

const maxCount = 1e9

// parser goes through a text's tokens from the left. It panics with an api.Flaw at the first one that can't stand where it does.
type parser struct {
	tokens []api.Token // those that haven't been taken
	end    int         // the text's length
	open   int         // signs that are open within a test's xfail or, behind it, within the test's block
}

func (p *parser) over() bool {
	return len(p.tokens) == 0
}

// next is the token that comes next; one of no kind, at the text's end, if there is none.
func (p *parser) next() api.Token {
	if p.over() {
		return api.Token{At: p.end}
	}
	return p.tokens[0]
}

// is tells whether a token of a kind and a text comes next.
func (p *parser) is(kind int, text string) bool {
	t := p.next()
	return t.Kind == kind && t.Text == text
}

// skip goes behind a token of a kind and a text, if that comes next, and tells whether it does.
func (p *parser) skip(kind int, text string) bool {
	if !p.is(kind, text) {
		return false
	}
	p.tokens = p.tokens[1:]
	return true
}

// take takes any token of a kind, and is its text.
func (p *parser) take(kind int) string {
	t := p.next()
	if t.Kind != kind {
		p.refuse(api.ErrToken)
	}
	p.tokens = p.tokens[1:]
	return t.Text
}

func (p *parser) quote() string {
	return p.take(api.Quote)
}

func (p *parser) sign(text string) {
	if !p.skip(api.Sign, text) {
		p.refuse(api.ErrToken)
	}
}

func (p *parser) word(text string) {
	if !p.skip(api.Word, text) {
		p.refuseOther()
	}
}

// kind takes one of the words that of tells, and is its kind.
func (p *parser) kind(of func(kind int) string) int {
	kind := words.Kind(p.next().Text, of)
	if kind == 0 {
		p.refuseOther()
	}
	p.take(api.Word) // a quote may mean the same text
	return kind
}

// number takes a number that may be here.
func (p *parser) number(may func(z complex128) bool) complex128 {
	z := p.next().Z
	if !may(z) {
		p.refuse(api.ErrToken)
	}
	p.take(api.Num)
	return z
}

func (p *parser) count() int {
	return int(real(p.number(isCount)))
}

// list takes a {, what item takes, as often as it comes, and a }.
func (p *parser) list(item func()) {
	p.sign("{")
	p.rest(item)
}

// braces is list within a test, where only so many { may be open.
func (p *parser) braces(item func()) {
	p.within("{", api.MaxDepth, func() { p.rest(item) })
}

// rest takes what of a list is behind its {.
func (p *parser) rest(item func()) {
	for !p.skip(api.Sign, "}") {
		item()
	}
}

// within takes a sign that is open while inner takes what is behind it, as one of at most so many.
func (p *parser) within(sign string, most int, inner func()) {
	if p.is(api.Sign, sign) && p.open == most {
		p.refuse(api.ErrDeep)
	}
	p.sign(sign)
	p.open++
	inner()
	p.open--
}

func (p *parser) refuse(code api.Errno) {
	panic(api.Flaw{Code: code, At: p.next().At})
}

// refuseOther refuses what comes next where some words may stand: another word is no such one.
func (p *parser) refuseOther() {
	if p.next().Kind == api.Word {
		p.refuse(api.ErrWord)
	}
	p.refuse(api.ErrToken)
}

func anyNumber(complex128) bool {
	return true
}

func isAmount(z complex128) bool {
	return real(z) >= 0 && imag(z) == 0
}

func isCount(z complex128) bool {
	return isAmount(z) && real(z) <= maxCount && real(z) == math.Floor(real(z))
}
