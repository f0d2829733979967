package glob

import (
	"math/rand"
	"reflect"
	"regexp"
	"slices"
	"strings"
	"testing"

	"colloquy/api"
)

func setOf(rs ...api.Range) api.Node { return api.Node{Kind: api.Set, Ranges: rs} }

func span(lo, hi byte) api.Range { return api.Range{Lo: lo, Hi: hi} }

func byteOf(b byte) api.Node { return setOf(span(b, b)) }

func all() api.Node { return setOf(span(0, 255)) }

func star() api.Node { return api.Node{Kind: api.Star, Kids: []api.Node{all()}} }

func cat(kids ...api.Node) api.Node { return api.Node{Kind: api.Cat, Kids: kids} }

// rising are a class's bytes as ranges, byte by byte.
func rising(in [256]bool, not bool) []api.Range {
	var out []api.Range
	for b := 0; b < 256; b++ {
		from := b
		for b < 256 && in[b] != not {
			b++
		}
		if from < b {
			out = append(out, span(byte(from), byte(b-1)))
		}
	}
	return out
}

const (
	quoted = 0x1000 // is added to a byte behind a backslash, which is no sign then
	lone   = 0x2000 // a backslash that nothing is behind
)

// lex is a pattern with each backslash and the byte behind it as one rune, and the runes' places.
func lex(pattern string) ([]rune, []int) {
	var signs []rune
	var places []int
	for at := 0; at < len(pattern); at++ {
		places = append(places, at)
		switch {
		case pattern[at] != '\\':
			signs = append(signs, rune(pattern[at]))
		case at+1 == len(pattern):
			signs = append(signs, lone)
		default:
			at++
			signs = append(signs, quoted+rune(pattern[at]))
		}
	}
	return signs, places
}

var (
	classItems = regexp.MustCompile(`(?s)^(?:.-[^\]]|.)(?:[^\]]-[^\]]|[^\]])*`)
	classItem  = regexp.MustCompile(`(?s).-[^\]]|.`)
)

// read is the document's form by patterns of signs: it gathers all that is wrong, and answers what stands first.
func read(pattern string) (api.Node, api.Errno, int) {
	if len(pattern) > 256 {
		return api.Node{}, api.ErrLong, 0
	}
	signs, places := lex(pattern)
	n := cat()
	first := api.Flaw{At: len(pattern) + 1}
	wrong := func(code api.Errno, at int) {
		if at < first.At {
			first = api.Flaw{Code: code, At: at}
		}
	}
	for i := 0; i < len(signs); i++ {
		switch c := signs[i]; c {
		case '?':
			n.Kids = append(n.Kids, all())
		case '*':
			n.Kids = append(n.Kids, star())
		case lone:
			wrong(api.ErrEnd, len(pattern))
		case '[':
			i++
			not := i < len(signs) && signs[i] == '!'
			if not {
				i++
			}
			var in [256]bool
			for _, text := range classItem.FindAllString(classItems.FindString(string(signs[i:])), -1) {
				item := []rune(text)
				lo, hi := item[0], item[len(item)-1]
				if lo != lone && hi != lone && hi&255 < lo&255 {
					wrong(api.ErrRange, places[i])
				}
				for b := lo & 255; b <= hi&255; b++ {
					in[b] = true
				}
				i += len(item)
			}
			if i == len(signs) {
				wrong(api.ErrEnd, len(pattern))
			}
			n.Kids = append(n.Kids, setOf(rising(in, not)...))
		default:
			n.Kids = append(n.Kids, byteOf(byte(c)))
		}
	}
	if first.Code != api.OK {
		return api.Node{}, first.Code, first.At
	}
	return n, api.OK, 0
}

// words are all texts of these bytes, up to a length.
func words(letters string, size int) []string {
	out := []string{""}
	for from := 0; size > 0; size-- {
		to := len(out)
		for _, w := range out[from:to] {
			for i := range len(letters) {
				out = append(out, w+letters[i:i+1])
			}
		}
		from = to
	}
	return out
}

func checkParse(t *testing.T, pattern string) {
	t.Helper()
	n, code, at := Parse(pattern)
	want, wantCode, wantAt := read(pattern)
	if code != wantCode || at != wantAt || !reflect.DeepEqual(n, want) {
		t.Fatalf("Parse(%q) = %v, %d, %d, not %v, %d, %d", pattern, n, code, at, want, wantCode, wantAt)
	}
}

func TestParseTrees(t *testing.T) { // P3.1
	for pattern, want := range map[string]api.Node{
		"":       cat(),
		"a?*":    cat(byteOf('a'), all(), star()),
		"**":     cat(star(), star()),
		`\*\?\[`: cat(byteOf('*'), byteOf('?'), byteOf('[')),
		`\\\]\a`: cat(byteOf('\\'), byteOf(']'), byteOf('a')),
		"\\\n":   cat(byteOf('\n')),
		"]-!^":   cat(byteOf(']'), byteOf('-'), byteOf('!'), byteOf('^')),

		"\x00\t\n\xff": cat(byteOf(0), byteOf(9), byteOf(10), byteOf(255)),

		"[a]":     cat(byteOf('a')),
		"[!]a-c]": cat(setOf(span(0, '\\'), span('^', '`'), span('d', 255))),
		"[!a]":    cat(setOf(span(0, '`'), span('b', 255))),
		"[a!]":    cat(setOf(span('!', '!'), span('a', 'a'))),
		"[!!]":    cat(setOf(span(0, ' '), span('"', 255))),
		`[\!a]`:   cat(setOf(span('!', '!'), span('a', 'a'))),
		"[^a]":    cat(setOf(span('^', '^'), span('a', 'a'))),
		"[a^]":    cat(setOf(span('^', '^'), span('a', 'a'))),
		"[!^]":    cat(setOf(span(0, ']'), span('_', 255))),

		"[]]":      cat(byteOf(']')),
		"[]a]":     cat(setOf(span(']', ']'), span('a', 'a'))),
		"[a]]":     cat(byteOf('a'), byteOf(']')),
		"[!]]":     cat(setOf(span(0, '\\'), span('^', 255))),
		`[\]]`:     cat(byteOf(']')),
		`[a\]b]`:   cat(setOf(span(']', ']'), span('a', 'b'))),
		"[]-a]":    cat(setOf(span(']', 'a'))),
		"[]-]":     cat(setOf(span('-', '-'), span(']', ']'))),
		`[A-\]]`:   cat(setOf(span('A', ']'))),
		`[\]-a]`:   cat(setOf(span(']', 'a'))),
		"[[]":      cat(byteOf('[')),
		"[*?]":     cat(setOf(span('*', '*'), span('?', '?'))),
		`[\\]`:     cat(byteOf('\\')),
		`[\a-\c]`:  cat(setOf(span('a', 'c'))),
		`[\\-\]]`:  cat(setOf(span('\\', ']'))),
		"[[-\\^]":  cat(setOf(span('[', '^'))),
		"[-]":      cat(byteOf('-')),
		"[--]":     cat(byteOf('-')),
		"[---]":    cat(byteOf('-')),
		"[----]":   cat(byteOf('-')),
		"[-a]":     cat(setOf(span('-', '-'), span('a', 'a'))),
		"[a-]":     cat(setOf(span('-', '-'), span('a', 'a'))),
		"[!-]":     cat(setOf(span(0, ','), span('.', 255))),
		"[!-a]":    cat(setOf(span(0, ','), span('.', '`'), span('b', 255))),
		"[+--]":    cat(setOf(span('+', '-'))),
		"[--0]":    cat(setOf(span('-', '0'))),
		"[a-c-e]":  cat(setOf(span('-', '-'), span('a', 'c'), span('e', 'e'))),
		`[a\-z]`:   cat(setOf(span('-', '-'), span('a', 'a'), span('z', 'z'))),
		`[\--0]`:   cat(setOf(span('-', '0'))),
		`[+-\-]`:   cat(setOf(span('+', '-'))),
		"[a-a]":    cat(byteOf('a')),
		"[aa]":     cat(byteOf('a')),
		"[d-fa-c]": cat(setOf(span('a', 'f'))),
		"[a-dc-f]": cat(setOf(span('a', 'f'))),
		"[a-fc-d]": cat(setOf(span('a', 'f'))),
		"[fa]":     cat(setOf(span('a', 'a'), span('f', 'f'))),

		"[\x00\t-\n\xff]": cat(setOf(span(0, 0), span(9, 10), span(255, 255))),
		"[!\x00\xff]":     cat(setOf(span(1, 254))),
		"[\x00-\xff]":     cat(all()),
		"[!\x00-\xff]":    cat(setOf()),
	} {
		if n, code, at := Parse(pattern); code != api.OK || at != 0 || !reflect.DeepEqual(n, want) {
			t.Errorf("Parse(%q) = %v, %d, %d, not %v", pattern, n, code, at, want)
		}
		checkParse(t, pattern)
	}
}

func TestParseWrong(t *testing.T) { // P3.1, DOC P1: the first error in the pattern
	long := strings.Repeat("a", 256)
	for pattern, want := range map[string]api.Flaw{
		`\`: {Code: api.ErrEnd, At: 1}, `a\`: {Code: api.ErrEnd, At: 2}, `\\\`: {Code: api.ErrEnd, At: 3},
		"[": {Code: api.ErrEnd, At: 1}, "[!": {Code: api.ErrEnd, At: 2}, "[]": {Code: api.ErrEnd, At: 2}, "[!]": {Code: api.ErrEnd, At: 3}, "[a": {Code: api.ErrEnd, At: 2},
		"[a-": {Code: api.ErrEnd, At: 3}, "[a-b": {Code: api.ErrEnd, At: 4}, `[\`: {Code: api.ErrEnd, At: 2}, `[\]`: {Code: api.ErrEnd, At: 3}, `[a\]`: {Code: api.ErrEnd, At: 4}, `[z-\`: {Code: api.ErrEnd, At: 4}, `[A-\]`: {Code: api.ErrEnd, At: 5}, "[a][": {Code: api.ErrEnd, At: 4},
		"[z-a]": {Code: api.ErrRange, At: 1}, "[!z-a]": {Code: api.ErrRange, At: 2}, `[a\z-b]`: {Code: api.ErrRange, At: 2}, `[a-\]]`: {Code: api.ErrRange, At: 1}, "[a--]": {Code: api.ErrRange, At: 1}, "[]-[]": {Code: api.ErrRange, At: 1}, "[a-bd-c]": {Code: api.ErrRange, At: 4}, "[\xff-\x00]": {Code: api.ErrRange, At: 1},
		"[z-a": {Code: api.ErrRange, At: 1}, `[b-a]\`: {Code: api.ErrRange, At: 1}, "[b-a][d-c]": {Code: api.ErrRange, At: 1}, "[a][d-c][": {Code: api.ErrRange, At: 4},
		long: {}, long + "a": {Code: api.ErrLong}, "[z-a]" + long: {Code: api.ErrLong}, long + "[": {Code: api.ErrLong}, long + `\`: {Code: api.ErrLong},
		long[:255] + `\`: {Code: api.ErrEnd, At: 256}, long[:255] + "[": {Code: api.ErrEnd, At: 256}, long[:251] + "[b-a]": {Code: api.ErrRange, At: 252},
		strings.Repeat("[z-a", 1<<20): {Code: api.ErrLong},
	} {
		n, code, at := Parse(pattern)
		if code != want.Code || at != want.At || code != api.OK && !reflect.DeepEqual(n, api.Node{}) {
			t.Errorf("Parse(%.40q) = %v, %d, %d, not %v", pattern, n, code, at, want)
		}
		checkParse(t, pattern)
	}
}

func TestParseAsTheFormSays(t *testing.T) { // P3.1
	for _, pattern := range words(`ab-!][\*?`, 5) {
		checkParse(t, pattern)
	}
	for _, items := range words(`ab-!]\`, 6) {
		checkParse(t, "["+items)
		checkParse(t, "["+items+"]^")
	}
	r := rand.New(rand.NewSource(3))
	signs := "--!]][[\\\\*?^ab\x00\t\n\xff"
	for range 20000 {
		pattern := make([]byte, r.Intn(40))
		if r.Intn(10) == 0 {
			pattern = make([]byte, 250+r.Intn(8))
		}
		for i := range pattern {
			pattern[i] = signs[r.Intn(len(signs))]
			if r.Intn(3) == 0 {
				pattern[i] = byte(r.Intn(256))
			}
		}
		checkParse(t, string(pattern))
	}
}

// is tells what a tree matches as layer 3's words say it: by trying each part of the text.
func is(kids []api.Node, text string) bool {
	if len(kids) == 0 {
		return text == ""
	}
	if kids[0].Kind == api.Star {
		for to := 0; to <= len(text); to++ {
			if is(kids[1:], text[to:]) {
				return true
			}
		}
		return false
	}
	return text != "" && slices.ContainsFunc(kids[0].Ranges, func(r api.Range) bool { return r.Lo <= text[0] && text[0] <= r.Hi }) && is(kids[1:], text[1:])
}

func TestMatch(t *testing.T) { // P3.1
	texts := words("ab]", 5)
	for _, pattern := range append(words("ab*?", 5), words("a*[]!b", 5)...) {
		n, code, _ := read(pattern)
		for _, text := range texts {
			if len(pattern) > 4 && len(text) > 4 {
				continue
			}
			if want := code == api.OK && is(n.Kids, text); Match(pattern, text) != want {
				t.Fatalf("Match(%q, %q) isn't %v", pattern, text, want)
			}
		}
	}
	for _, x := range []struct {
		pattern, text string
		want          bool
	}{
		{"*.go", "x.go", true}, {"*.go", "x.goo", false}, {"", "a", false}, {"a", "", false}, {"[!\x00-\xff]", "", false}, {"[!\x00-\xff]", "a", false}, {"*[!\x00-\xff]*", "aa", false},
		{"?", "\n", true}, {"*", "a\n\x00\xff", true}, {"?", "é", false}, {"??", "é", true}, {"[\x00-\x7f]", "\x80", false}, {"[\x80-\xff]", "\xff", true}, {"[!a]", "\n", true},
		{"a\\", "a", false}, {"[b-a]", "a", false}, {"[", "[", false}, {strings.Repeat("a", 256), strings.Repeat("a", 256), true}, {strings.Repeat("a", 257), strings.Repeat("a", 257), false},
	} {
		if Match(x.pattern, x.text) != x.want {
			t.Errorf("Match(%q, %q) isn't %v", x.pattern, x.text, x.want)
		}
	}
}

func TestMatchOfLongTexts(t *testing.T) { // DOC P1: every call ends
	long := strings.Repeat("a", 1<<18)
	stars := strings.Repeat("*a", 127)
	for pattern, want := range map[string]bool{
		stars: true, stars + "b": false, stars + "*": true, strings.Repeat("*", 256): true, "*" + strings.Repeat("a", 255): true, "*" + strings.Repeat("a", 254) + "b": false, "b*": false, "*b*": false, strings.Repeat("?", 256): false,
	} {
		if Match(pattern, long) != want {
			t.Errorf("Match(%q, %d times a) isn't %v", pattern, len(long), want)
		}
	}
}

func TestQuote(t *testing.T) { // P3.1, P3.2
	for text, want := range map[string]string{"": "", "abc": "abc", `a*?[]\`: `a\*\?\[]\\`, "!-^": "!-^", "\x00\n\xff": "\x00\n\xff", "é": "é"} {
		if got := Quote(text); got != want {
			t.Errorf("Quote(%q) = %q, not %q", text, got, want)
		}
	}
	if Quote(strings.Repeat("*", 1<<20)) != strings.Repeat(`\*`, 1<<20) {
		t.Error("Quote of a long text")
	}
	texts := words("a*?[]\\", 3)
	for _, text := range texts {
		for _, other := range texts {
			if Match(Quote(text), other) != (text == other) {
				t.Errorf("Match(Quote(%q), %q) isn't %v", text, other, text == other)
			}
		}
	}
	r := rand.New(rand.NewSource(4))
	for range 5000 {
		text := make([]byte, 1+r.Intn(128))
		for i := range text {
			text[i] = "?*[]!-\\a"[r.Intn(8)]
			if r.Intn(4) == 0 {
				text[i] = byte(r.Intn(256))
			}
		}
		at := r.Intn(len(text))
		pattern := Quote(string(text))
		for other, want := range map[string]bool{string(text): true, string(text) + "a": false, "a" + string(text): false, string(text[1:]): false, string(text[:at]) + string([]byte{text[at] + 1}) + string(text[at+1:]): false} {
			if Match(pattern, other) != want {
				t.Fatalf("Match(Quote(%q), %q) isn't %v", text, other, want)
			}
		}
	}
	for b := range 256 {
		pattern := Quote(string([]byte{byte(b)}))
		for other := range 256 {
			if Match(pattern, string([]byte{byte(other)})) != (b == other) {
				t.Errorf("the byte %d, quoted, and the byte %d", b, other)
			}
		}
	}
}

func TestStarAndAnyByte(t *testing.T) { // P3.2
	for _, text := range append(words("a*?[\\\n", 4), "\x00", "\xff", "é", strings.Repeat("x", 1<<20)) {
		if !Match("*", text) || Match("?", text) != (len(text) == 1) {
			t.Errorf("* and ? of %.20q: %v, %v", text, Match("*", text), Match("?", text))
		}
	}
	for b := range 256 {
		if text := string([]byte{byte(b)}); !Match("?", text) || !Match("*", text) {
			t.Errorf("* and ? of the byte %d", b)
		}
	}
}

func TestOnePatternBehindAnother(t *testing.T) { // P3.2
	patterns := []string{"", "a", "b", "?", "*", "a*", "*a", "*a*b", "[ab]", "[!a]", "??", `\a`, "[]a]", "[a-]", "]", "!", "-", "^]", "*]", "a?b", "[!\x00-\xff]"}
	texts := words("ab]-", 4)
	for _, p := range patterns {
		for _, q := range patterns {
			for _, text := range texts {
				want := false
				for at := 0; at <= len(text); at++ {
					want = want || Match(p, text[:at]) && Match(q, text[at:])
				}
				if Match(p+q, text) != want {
					t.Errorf("Match(%q + %q, %q) isn't %v", p, q, text, want)
				}
			}
		}
	}
}

func TestRanges(t *testing.T) { // P3.1
	for _, x := range []struct{ rs, yes, no []api.Range }{
		{nil, nil, []api.Range{span(0, 255)}},
		{[]api.Range{}, nil, []api.Range{span(0, 255)}},
		{[]api.Range{span(0, 255)}, []api.Range{span(0, 255)}, nil},
		{[]api.Range{span(9, 8), span(255, 0)}, nil, []api.Range{span(0, 255)}},
		{[]api.Range{span(0, 0)}, []api.Range{span(0, 0)}, []api.Range{span(1, 255)}},
		{[]api.Range{span(255, 255)}, []api.Range{span(255, 255)}, []api.Range{span(0, 254)}},
		{[]api.Range{span(255, 255), span(0, 0)}, []api.Range{span(0, 0), span(255, 255)}, []api.Range{span(1, 254)}},
		{[]api.Range{span(5, 9), span(10, 12)}, []api.Range{span(5, 12)}, []api.Range{span(0, 4), span(13, 255)}},
		{[]api.Range{span(5, 9), span(11, 12)}, []api.Range{span(5, 9), span(11, 12)}, []api.Range{span(0, 4), span(10, 10), span(13, 255)}},
		{[]api.Range{span(5, 9), span(7, 12), span(9, 9), span(5, 9)}, []api.Range{span(5, 12)}, []api.Range{span(0, 4), span(13, 255)}},
		{[]api.Range{span(0, 127), span(128, 255)}, []api.Range{span(0, 255)}, nil},
		{[]api.Range{span(1, 255)}, []api.Range{span(1, 255)}, []api.Range{span(0, 0)}},
	} {
		if got := Ranges(x.rs, false); !slices.Equal(got, x.yes) {
			t.Errorf("Ranges(%v, false) = %v, not %v", x.rs, got, x.yes)
		}
		if got := Ranges(x.rs, true); !slices.Equal(got, x.no) {
			t.Errorf("Ranges(%v, true) = %v, not %v", x.rs, got, x.no)
		}
	}
	r := rand.New(rand.NewSource(5))
	for range 5000 {
		checkRanges(t, randomRanges(r, r.Intn(12)))
	}
	checkRanges(t, randomRanges(r, 100000))
	checkRanges(t, make([]api.Range, 1<<20))
}

func randomRanges(r *rand.Rand, size int) []api.Range {
	rs := make([]api.Range, size)
	for i := range rs {
		lo := r.Intn(256)
		rs[i] = span(byte(lo), byte(max(0, min(255, lo+r.Intn(20)-6))))
	}
	return rs
}

func checkRanges(t *testing.T, rs []api.Range) {
	t.Helper()
	var in [256]bool
	for _, r := range rs {
		for b := int(r.Lo); b <= int(r.Hi); b++ {
			in[b] = true
		}
	}
	for _, not := range []bool{false, true} {
		if got := Ranges(rs, not); !slices.Equal(got, rising(in, not)) {
			t.Fatalf("Ranges of %d ranges, %v: %v, not %v", len(rs), not, got, rising(in, not))
		}
	}
}

// lists fails, if two lists of a tree share memory, spare room too.
func lists(t *testing.T, n api.Node, seenRanges map[*api.Range]int, seenKids map[*api.Node]int) {
	t.Helper()
	for i := range n.Ranges[:cap(n.Ranges)] {
		seenRanges[&n.Ranges[:cap(n.Ranges)][i]]++
	}
	for i := range n.Kids[:cap(n.Kids)] {
		seenKids[&n.Kids[:cap(n.Kids)][i]]++
	}
	for _, kid := range n.Kids {
		lists(t, kid, seenRanges, seenKids)
	}
	for _, times := range seenRanges {
		if times > 1 {
			t.Fatal("two lists share ranges")
		}
	}
	for _, times := range seenKids {
		if times > 1 {
			t.Fatal("two lists share kids")
		}
	}
}

func TestTreesAreNew(t *testing.T) { // P3.3
	pattern := "aa??**[a-c][a-c][!a][!a]"
	ranges, kids := map[*api.Range]int{}, map[*api.Node]int{}
	first, _, _ := Parse(pattern)
	lists(t, first, ranges, kids)
	second, _, _ := Parse(pattern)
	lists(t, second, ranges, kids)
	for _, kid := range first.Kids {
		clear(kid.Ranges[:cap(kid.Ranges)])
		clear(kid.Kids[:cap(kid.Kids)])
	}
	clear(first.Kids[:cap(first.Kids)])
	want, _, _ := read(pattern)
	if third, _, _ := Parse(pattern); !reflect.DeepEqual(second, want) || !reflect.DeepEqual(third, want) {
		t.Error("what is written into one answer is seen in another")
	}
}

func TestRangesAreNew(t *testing.T) { // P3.3
	for _, list := range [][]api.Range{{span(5, 9), span(1, 4), span(20, 10), span(7, 12)}, {span(3, 3), span(9, 9)}, {span(0, 255)}, {}} {
		for _, not := range []bool{false, true} {
			held := append(slices.Clone(list), span(77, 88), span(99, 98))
			before := slices.Clone(held)
			rs := held[:len(list)]
			got := Ranges(rs, not)
			want := slices.Clone(got)
			if !slices.Equal(held, before) {
				t.Errorf("Ranges(%v, %v) changes its argument", list, not)
			}
			clear(held)
			if !slices.Equal(got, want) {
				t.Errorf("Ranges(%v, %v) keeps its argument", list, not)
			}
			held = slices.Clone(before)
			got = Ranges(held[:len(list)], not)
			clear(got[:cap(got)])
			if !slices.Equal(held, before) || !slices.Equal(Ranges(held[:len(list)], not), want) {
				t.Errorf("Ranges(%v, %v) answers memory that isn't new", list, not)
			}
		}
	}
}
