package ascii

import (
	"fmt"
	"regexp"
	"testing"
)

func TestKindsOfBytes(t *testing.T) {
	letter, digit, inWord, hex := regexp.MustCompile(`^[a-zA-Z]$`), regexp.MustCompile(`^[0-9]$`), regexp.MustCompile(`^[\w-]$`), regexp.MustCompile(`^[0-9a-f]$`)
	for i := range 256 {
		b := byte(i)
		text := string([]byte{b})
		if Letter(b) != letter.MatchString(text) || Digit(b) != digit.MatchString(text) || InWord(b) != inWord.MatchString(text) || HexValue(b) >= 0 != hex.MatchString(text) {
			t.Errorf("byte %d: a letter %v, a digit %v, in a word %v, of the base 16 %d", i, Letter(b), Digit(b), InWord(b), HexValue(b))
		}
	}
}

func TestHex(t *testing.T) {
	for i := range 256 {
		text := Hex(byte(i))
		if text != fmt.Sprintf("%02x", i) || HexValue(text[0])*16+HexValue(text[1]) != i {
			t.Errorf("Hex(%d) = %q", i, text)
		}
	}
}
