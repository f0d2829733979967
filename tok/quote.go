package tok

import (
	"strings"

	"colloquy/api"
	"colloquy/ascii"
)

const (
	hexAt   = 2 // where the digits begin in an escape \x
	hexSize = 4 // bytes of such an escape
)

// Quoted is a quote that means a text.
func Quoted(s string) string {
	var out strings.Builder
	out.WriteByte('"')
	for at := range len(s) {
		switch b := s[at]; {
		case b == '\n':
			out.WriteString(`\n`)
		case b == '\t':
			out.WriteString(`\t`)
		case b == '\\', b == '"':
			out.WriteByte('\\')
			out.WriteByte(b)
		case control(b), b > 127:
			out.WriteString(`\x`)
			out.WriteString(ascii.Hex(b))
		default:
			out.WriteByte(b)
		}
	}
	out.WriteByte('"')
	return out.String()
}

// quote is the quote that begins at a place, as token answers it.
func quote(text string, from int) (api.Token, int, api.Flaw) {
	var means strings.Builder
	at := from + 1
	for at < len(text) && text[at] != '"' {
		b, size, code := meant(text[at:])
		switch code {
		case api.ErrOpen:
			return wrong(code, from)
		case api.ErrChar:
			return wrong(code, at)
		}
		means.WriteByte(b)
		at += size
	}
	if at == len(text) {
		return wrong(api.ErrOpen, from)
	}
	return api.Token{Kind: api.Quote, Text: means.String(), At: from}, at + 1, api.Flaw{}
}

// meant is the byte that the next byte or escape in a quote means, and how many bytes that has; ErrChar: it may not stand there; ErrOpen: the text is over in it.
func meant(rest string) (byte, int, api.Errno) {
	b := rest[0]
	switch {
	case b == '\\':
		return escaped(rest)
	case control(b):
		return 0, 0, api.ErrChar
	}
	return b, 1, api.OK
}

// escaped is what a backslash and what is behind it mean, as meant answers it.
func escaped(rest string) (byte, int, api.Errno) {
	if len(rest) == 1 {
		return 0, 0, api.ErrOpen
	}
	switch b := rest[1]; b {
	case 'n':
		return '\n', 2, api.OK
	case 't':
		return '\t', 2, api.OK
	case '\\', '"':
		return b, 2, api.OK
	case 'x':
		return hexEscaped(rest)
	}
	return 0, 0, api.ErrChar
}

func hexEscaped(rest string) (byte, int, api.Errno) {
	value := 0
	for at := hexAt; at < hexSize; at++ {
		if at == len(rest) {
			return 0, 0, api.ErrOpen
		}
		digit := ascii.HexValue(rest[at])
		if digit < 0 {
			return 0, 0, api.ErrChar
		}
		value = value<<4 | digit
	}
	return byte(value), hexSize, api.OK
}

// control tells whether a byte may not stand in a quote.
func control(b byte) bool {
	return b < ' ' || b == 127
}
