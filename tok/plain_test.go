package tok

import (
	"math"
	"math/rand"
	"regexp"
	"slices"
	"strconv"
	"strings"
	"testing"

	"colloquy/api"
	"colloquy/cnum"
)

var (
	blanks    = regexp.MustCompile(`^(?:[ \t\n\r]|#[^\n]*)*`)
	word      = regexp.MustCompile(`^[a-zA-Z][a-zA-Z0-9_-]*`)
	sign      = regexp.MustCompile(`^[{}()=!&|]`)
	clinging  = regexp.MustCompile(`^[a-zA-Z0-9.]`)
	goodQuote = regexp.MustCompile(`^"(?:[^\x00-\x1f\x7f"\\]|\\[nt"\\]|\\x[0-9a-f]{2})*`)
	cutEscape = regexp.MustCompile(`^\\(?:x[0-9a-f]?)?$`)
	escape    = regexp.MustCompile(`\\(?:[nt"\\]|x..)`)
)

const longestNumber = 50 // bytes, and some more

// plain is Tokens as the document's form says it, by patterns.
func plain(text string) ([]api.Token, api.Flaw) {
	if len(text) > 65536 {
		return nil, api.Flaw{Code: api.ErrLong}
	}
	var all []api.Token
	for at := len(blanks.FindString(text)); at < len(text); {
		rest := text[at:]
		one, size, flaw := plainToken(rest)
		if flaw.Code != api.OK {
			return nil, api.Flaw{Code: flaw.Code, At: at + flaw.At}
		}
		one.At = at
		all = append(all, one)
		at += size
		at += len(blanks.FindString(text[at:]))
	}
	return all, api.Flaw{}
}

// plainToken is the token that a text begins with, and its length.
func plainToken(rest string) (api.Token, int, api.Flaw) {
	if w := word.FindString(rest); w != "" {
		return api.Token{Kind: 1, Text: w}, len(w), api.Flaw{}
	}
	for size := min(len(rest), longestNumber); size > 0; size-- {
		z, ok := cnum.Parse(rest[:size])
		if !ok {
			continue
		}
		if clinging.MatchString(rest[size:]) {
			return api.Token{}, 0, api.Flaw{Code: api.ErrNum}
		}
		return api.Token{Kind: 2, Text: rest[:size], Z: z}, size, api.Flaw{}
	}
	if good := goodQuote.FindString(rest); good != "" {
		behind := rest[len(good):]
		switch {
		case strings.HasPrefix(behind, `"`):
			return api.Token{Kind: 3, Text: meaning(good[1:])}, len(good) + 1, api.Flaw{}
		case behind == "" || cutEscape.MatchString(behind):
			return api.Token{}, 0, api.Flaw{Code: api.ErrOpen}
		}
		return api.Token{}, 0, api.Flaw{Code: api.ErrChar, At: len(good)}
	}
	if s := sign.FindString(rest); s != "" {
		return api.Token{Kind: 4, Text: s}, 1, api.Flaw{}
	}
	return api.Token{}, 0, api.Flaw{Code: api.ErrChar}
}

// meaning is what stands in a quote without flaws, with its escapes as the bytes that they mean.
func meaning(s string) string {
	return escape.ReplaceAllStringFunc(s, func(e string) string {
		if e[1] == 'x' {
			b, _ := strconv.ParseUint(e[2:], 16, 8)
			return string([]byte{byte(b)})
		}
		return map[byte]string{'n': "\n", 't': "\t", '\\': `\`, '"': `"`}[e[1]]
	})
}

// check holds a text's tokens against the document's form.
func check(t *testing.T, text string) {
	t.Helper()
	got, flaw := Tokens(text)
	want, wantFlaw := plain(text)
	if flaw != wantFlaw || !slices.EqualFunc(got, want, same) {
		t.Fatalf("Tokens(%.200q) = %v, %v, not %v, %v", text, got, flaw, want, wantFlaw)
	}
}

// same tells whether two tokens are the same, and no part of a value is -0 where the other's is 0.
func same(a, b api.Token) bool {
	return a == b && math.Signbit(real(a.Z)) == math.Signbit(real(b.Z)) && math.Signbit(imag(a.Z)) == math.Signbit(imag(b.Z))
}

// texts are all texts of these bytes, up to a length.
func texts(letters string, size int) []string {
	out := []string{""}
	for from := 0; size > 0; size-- {
		to := len(out)
		for _, ahead := range out[from:to] {
			for i := range len(letters) {
				out = append(out, ahead+letters[i:i+1])
			}
		}
		from = to
	}
	return out
}

// anyBlanks are blanks and remarks, which end whatever is ahead.
func anyBlanks(r *rand.Rand) string {
	some := []string{" ", "\t", "\n", "\r", "\r\n", "#\n", "# a \"{?\x00\xff\n", "##\r\n"}
	out := some[r.Intn(len(some))]
	for range r.Intn(3) {
		out += some[r.Intn(len(some))]
	}
	return out
}

// anyToken is a token's text.
func anyToken(r *rand.Rand) string {
	switch r.Intn(4) {
	case 0:
		words := []string{"a", "Z", "i", "e5", "suite", "a-1", "x_-", "test2", "a--"}
		return words[r.Intn(len(words))]
	case 1:
		nums := []string{"0", "-0", "5", "+5", "1.5", "-2.50", "1e3", "1.5E-3", "2i", "-i", "+i", "1+i", "1.5e3-2i", "-1-1e2i", "123456789012345", "007"}
		return nums[r.Intn(len(nums))]
	case 2:
		b := make([]byte, r.Intn(6))
		for i := range b {
			b[i] = byte(r.Intn(256))
		}
		return Quoted(string(b))
	}
	return string("{}()=!&|"[r.Intn(8)])
}

// anyText is a text without flaws, in which blanks stand between all tokens.
func anyText(r *rand.Rand, tokens int) string {
	out := ""
	for range tokens {
		out += anyToken(r) + anyBlanks(r)
	}
	return out
}

// bare are tokens without their places.
func bare(ts []api.Token) []api.Token {
	out := slices.Clone(ts)
	for i := range out {
		out[i].At = 0
	}
	return out
}
