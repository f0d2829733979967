package tok

import (
	"math/rand"
	"slices"
	"strings"
	"testing"

	"colloquy/api"
)

func TestPlacesRise(t *testing.T) { // P13.3
	r := rand.New(rand.NewSource(3))
	for range 3000 {
		text := anyText(r, r.Intn(30))
		ts, _ := Tokens(text)
		behind := 0
		for _, one := range ts {
			stands := one.Text
			if one.Kind == api.Quote {
				stands = `"`
			}
			if one.At < behind || !strings.HasPrefix(text[one.At:], stands) {
				t.Fatalf("%q: %v", text, ts)
			}
			behind = one.At + len(stands)
		}
	}
}

func TestBlanksChangeNothing(t *testing.T) { // P13.3
	r := rand.New(rand.NewSource(4))
	for range 3000 {
		one, two := "", anyBlanks(r)
		for range r.Intn(12) {
			token := anyToken(r)
			one += token + anyBlanks(r)
			two += token + anyBlanks(r) + anyBlanks(r)
		}
		a, aFlaw := Tokens(one)
		b, bFlaw := Tokens(two)
		if aFlaw != (api.Flaw{}) || bFlaw != (api.Flaw{}) || !slices.Equal(bare(a), bare(b)) {
			t.Fatalf("%q: %v, %v\n%q: %v, %v", one, a, aFlaw, two, b, bFlaw)
		}
	}
	// Where tokens touch, too.
	touching, _ := Tokens(`test"a"{(b!="")}5-i|x`)
	apart, _ := Tokens("test \"a\"#\n{ (\tb! =\r\"\" ) } 5-i | x # ")
	if len(touching) != 13 || !slices.Equal(bare(touching), bare(apart)) {
		t.Errorf("%v\n%v", touching, apart)
	}
}

func TestTwoTexts(t *testing.T) { // P13.3
	r := rand.New(rand.NewSource(5))
	some := []string{"", " ", "#", "# a", "a", "a-", "5", "-i", "1+2i", "{", `""`, `"\""`, "a#", "\r", "1e5", "2#x"}
	for range 200 {
		some = append(some, anyText(r, r.Intn(8)), anyText(r, r.Intn(8))+anyToken(r))
	}
	for _, a := range some {
		for _, b := range some {
			first, _ := Tokens(a)
			second, _ := Tokens(b)
			for _, one := range second {
				one.At += len(a) + 1
				first = append(first, one)
			}
			if both, flaw := Tokens(a + "\n" + b); flaw != (api.Flaw{}) || !slices.Equal(both, first) {
				t.Fatalf("%q and %q: %v, %v, not %v", a, b, both, flaw, first)
			}
		}
	}
}

func TestAnswersAreNew(t *testing.T) { // P13.4, DOC P2
	r := rand.New(rand.NewSource(6))
	for range 300 {
		text := anyText(r, r.Intn(40))
		one, _ := Tokens(text)
		two, _ := Tokens(text)
		want, _ := plain(text)
		whole := one[:cap(one)]
		for i := range whole {
			whole[i] = api.Token{Kind: -1, Text: "over", At: -1, Z: -1}
		}
		three, flaw := Tokens(text)
		if flaw != (api.Flaw{}) || !slices.Equal(two, want) || !slices.Equal(three, want) {
			t.Fatalf("%q: %v, %v", text, two, three)
		}
	}
}
