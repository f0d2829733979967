// Package cnum is layer 1: complex numbers that boards measure, and their texts.
package cnum

import (
	"math"
	"strconv"
)

// Parse is the number that the whole text is, in its form; false: it is none.
func Parse(s string) (complex128, bool) {
	// A text that is a number is also the longest number that it begins with.
	z, end := longest(s)
	if end == 0 || end < len(s) {
		return 0, false
	}
	return z, true
}

// Find is the number that stands first in a text, and there the longest: in its form, its first place, and the place behind it.
func Find(s string) (complex128, int, int, bool) {
	for at := range len(s) {
		if z, end := longest(s[at:]); end > 0 {
			return z, at, at + end, true
		}
	}
	return 0, 0, 0, false
}

// Right tells whether neither part of a number is NaN or infinite.
func Right(z complex128) bool {
	return finite(real(z)) && finite(imag(z))
}

// Text is the text of a number's form; "?", if the number isn't right.
func Text(z complex128) string {
	if !Right(z) {
		return "?"
	}
	z = form(z)
	text := shortest(real(z))
	if imag(z) == 0 {
		return text
	}
	sign := "+"
	if imag(z) < 0 {
		sign = "-"
	}
	return text + sign + shortest(math.Abs(imag(z))) + "i"
}

// Near tells whether both parts of two right numbers are the same, or at most tol apart.
func Near(a, b complex128, tol float64) bool {
	if !Right(a) || !Right(b) || math.IsNaN(tol) {
		return false
	}
	return nearPart(real(a), real(b), tol) && nearPart(imag(a), imag(b), tol)
}

// Add is the sum of numbers, from the first to the last; in its form, if that is right.
func Add(zs ...complex128) complex128 {
	var re, im float64
	for _, z := range zs {
		re += real(z)
		im += imag(z)
	}
	return formIfRight(complex(re, im))
}

// Turn is a number turned n times by a quarter, back if n is below 0; in its form, if that is right.
func Turn(z complex128, n int) complex128 {
	// Four quarters change nothing, and a remainder below 0 is as good as the one four above it.
	for range (n%4 + 4) % 4 {
		z = complex(-imag(z), real(z))
	}
	return formIfRight(z)
}

func finite(x float64) bool {
	return !math.IsNaN(x) && !math.IsInf(x, 0)
}

func shortest(x float64) string {
	return strconv.FormatFloat(x, 'g', -1, 64)
}

func nearPart(a, b, tol float64) bool {
	return a == b || math.Abs(a-b) <= tol
}

func formIfRight(z complex128) complex128 {
	if !Right(z) {
		return z
	}
	return form(z)
}

func form(z complex128) complex128 {
	return complex(formPart(real(z)), formPart(imag(z)))
}

func formPart(x float64) float64 {
	if x == 0 { // -0 is equal to 0 too
		return 0
	}
	return x
}
