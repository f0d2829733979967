package cnum

import (
	"strconv"

	"colloquy/ascii"
)

const maxDigits = 15 // of a real, ahead of its exponent

// longest is the longest number that a text begins with, in its form, and the place behind it; 0 and 0: there is none.
//
// The longest real is always the one to take: behind a shorter one stands a digit, a point or an e, and there a number can't go on.
func longest(s string) (complex128, int) {
	var re, im, sign, amount float64
	var at, end, n int
part:
	sign, n = leadingSign(s[at:])
	if n == 0 && end > 0 { // the second part must have a sign
		goto done
	}
	at += n
	n = leadingReal(s[at:])
	amount = 1 // of an i alone
	if n > 0 {
		amount = value(s[at : at+n])
	}
	at += n
	if at < len(s) && s[at] == 'i' {
		im, end = sign*amount, at+1
		goto done
	}
	if n > 0 && end == 0 {
		re, end = sign*amount, at
		goto part
	}
done:
	return form(complex(re, im)), end
}

// leadingReal is the length of the longest real that a text begins with; 0: there is none.
func leadingReal(s string) int {
	var at, end, digits, n int
whole:
	if digits < maxDigits && digitAt(s, at) {
		at++
		digits++
		goto whole
	}
	end = at
	if end == 0 {
		return 0
	}
	if at == len(s) || s[at] != '.' {
		goto exponent
	}
	at++
fraction:
	if digits < maxDigits && digitAt(s, at) {
		at++
		digits++
		end = at
		goto fraction
	}
	if end < at { // a point that no digit is behind, or none that may be
		return end
	}
exponent:
	if at == len(s) || s[at] != 'e' && s[at] != 'E' {
		return end
	}
	at++
	_, n = leadingSign(s[at:])
	at += n
	if !digitAt(s, at) {
		return end
	}
	end = at + 1
	if digitAt(s, end) && inBounds(value(s[:end+1])) {
		end++
	}
	return end
}

// leadingSign is the factor that a sign at the beginning of a text stands for, and its length; 1 and 0: there is none.
func leadingSign(s string) (float64, int) {
	if s == "" {
		return 1, 0
	}
	switch s[0] {
	case '+':
		return 1, 1
	case '-':
		return -1, 1
	}
	return 1, 0
}

func digitAt(s string, at int) bool {
	return at < len(s) && ascii.Digit(s[at])
}

// inBounds tells whether a real with an exponent of two digits may have that value.
func inBounds(x float64) bool {
	return x == 0 || 1e-80 <= x && x <= 1e80
}

// value is a real's value. It has at most 15 digits and an exponent of two, so the call can't fail.
func value(text string) float64 {
	x, _ := strconv.ParseFloat(text, 64)
	return x
}
