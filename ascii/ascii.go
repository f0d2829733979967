// Package ascii tells which bytes are letters and digits, and writes bytes by digits of the base 16: cnum, name, rex and tok stand on it.
package ascii

import "strings"

const hexDigits = "0123456789abcdef"

// Letter tells whether a byte is a to z or A to Z.
func Letter(b byte) bool {
	return 'a' <= b && b <= 'z' || 'A' <= b && b <= 'Z'
}

// Digit tells whether a byte is 0 to 9.
func Digit(b byte) bool {
	return '0' <= b && b <= '9'
}

// InWord tells whether a byte may stand in a word, behind its first letter.
func InWord(b byte) bool {
	return Letter(b) || Digit(b) || b == '-' || b == '_'
}

// Hex is a byte as two digits of the base 16.
func Hex(b byte) string {
	return string([]byte{hexDigits[b>>4], hexDigits[b&15]})
}

// HexValue is the value of a digit of the base 16, 0 to 9 and a to f; -1, if the byte is none.
func HexValue(b byte) int {
	return strings.IndexByte(hexDigits, b)
}
