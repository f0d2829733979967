package pat

import (
	"bytes"
	"math"
	"math/rand"
	"regexp"
	"slices"
	"strings"
	"testing"

	"colloquy/api"
	"colloquy/glob"
	"colloquy/rex"
)

func kinds() []int { return []int{api.Exact, api.Glob, api.Regex} }

func made(t *testing.T, kind int, text string) *Pattern {
	t.Helper()
	p, code, at := Compile(kind, text)
	if p == nil || code != api.OK || at != 0 {
		t.Fatalf("Compile(%d, %q) = %v, %d, %d", kind, text, p, code, at)
	}
	if p.Kind() != kind || p.Text() != text {
		t.Fatalf("made of %d, %q: %d, %q", kind, text, p.Kind(), p.Text())
	}
	return p
}

func wrong(t *testing.T, kind int, text string, want api.Errno, wantAt int) {
	t.Helper()
	if p, code, at := Compile(kind, text); p != nil || code != want || at != wantAt {
		t.Errorf("Compile(%d, %q) = %v, %d, %d, not %d at %d", kind, text, p, code, at, want, wantAt)
	}
}

// place is what Find answers.
type place struct {
	from, to int
	ok       bool
}

func found(p *Pattern, buffer []byte) place {
	from, to, ok := p.Find(buffer)
	return place{from, to, ok}
}

// search is the document's sentence on Find: the first place, and there the longest piece, of all pieces that a kind's own test matches.
func search(buffer []byte, matches func(piece []byte) bool) place {
	for from := 0; from <= len(buffer); from++ {
		for to := len(buffer); to >= from; to-- {
			if matches(buffer[from:to]) {
				return place{from, to, true}
			}
		}
	}
	return place{}
}

// matcher tells by other means than the layer's whether a whole piece is what a pattern is; of Regex only for texts below 128.
func matcher(kind int, text string) func(piece []byte) bool {
	switch kind {
	case api.Exact:
		return func(piece []byte) bool { return string(piece) == text }
	case api.Glob:
		return func(piece []byte) bool { return glob.Match(text, string(piece)) }
	}
	r := regexp.MustCompile("^(?:" + text + ")$")
	r.Longest()
	return func(piece []byte) bool { return r.FindIndex(piece) != nil && len(r.Find(piece)) == len(piece) }
}

func TestFind(t *testing.T) { // P6.1
	for _, x := range []struct {
		kind         int
		text, buffer string
		want         place
	}{
		{api.Exact, "ab", "xab", place{1, 3, true}},
		{api.Glob, "a*", "xab", place{1, 3, true}},
		{api.Regex, "b|ab", "xab", place{1, 3, true}},

		{api.Exact, "", "", place{0, 0, true}},
		{api.Glob, "", "", place{0, 0, true}},
		{api.Regex, "", "", place{0, 0, true}},
		{api.Exact, "", "xy", place{0, 0, true}},
		{api.Glob, "", "xy", place{0, 0, true}},
		{api.Regex, "", "xy", place{0, 0, true}},
		{api.Regex, "b*", "abb", place{0, 0, true}},
		{api.Regex, "b+", "abb", place{1, 3, true}},

		{api.Exact, "a", "", place{}},
		{api.Glob, "?", "", place{}},
		{api.Glob, "*", "", place{0, 0, true}},
		{api.Regex, ".", "", place{}},

		{api.Exact, "ab", "abcab", place{0, 2, true}},
		{api.Exact, "ab", "ccab", place{2, 4, true}},
		{api.Exact, "ab", "cca", place{}},
		{api.Exact, "aab", "aaab", place{1, 4, true}},
		{api.Glob, "[b-d]?", "abcd", place{1, 3, true}},
		{api.Glob, "*", "a\nb\xff", place{0, 4, true}},
		{api.Glob, "b*d", "abdcdb", place{1, 5, true}},
		{api.Regex, "a*(b|bc)", "xabc", place{1, 4, true}},
		{api.Regex, ".+", "\n\nab\nc", place{2, 4, true}},
		{api.Regex, "ab|b|abc", "zabcd", place{1, 4, true}},

		{api.Exact, `a*?[\.|()+`, `xa*?[\.|()+`, place{1, 11, true}},
		{api.Exact, "a*", "aaa", place{}},
		{api.Exact, "?", "a", place{}},
		{api.Exact, "[a]", "a", place{}},
		{api.Exact, `\a`, "a", place{}},
		{api.Exact, `\`, `a\`, place{1, 2, true}},
		{api.Exact, "[", "[", place{0, 1, true}},
		{api.Exact, "a|b", "b", place{}},
		{api.Exact, "(", "(", place{0, 1, true}},

		{api.Glob, "a|b", "b", place{}},
		{api.Glob, "(a)", "a", place{}},
		{api.Regex, "a?", "b", place{0, 0, true}},
		{api.Glob, "a?", "ab", place{0, 2, true}},
		{api.Glob, "[!a]", "ab", place{1, 2, true}},
		{api.Regex, "[!a]", "bab", place{1, 2, true}},
		{api.Regex, "[^a]", "ab", place{1, 2, true}},
		{api.Regex, `\d+`, "ab12c3", place{2, 4, true}},
	} {
		if got := found(made(t, x.kind, x.text), []byte(x.buffer)); got != x.want {
			t.Errorf("%d %q in %q: %v, not %v", x.kind, x.text, x.buffer, got, x.want)
		}
	}
}

func TestFindInNil(t *testing.T) { // P6.1
	for _, kind := range kinds() {
		if got := found(made(t, kind, ""), nil); got != (place{0, 0, true}) {
			t.Errorf("kind %d, nothing in nothing: %v", kind, got)
		}
		if got := found(made(t, kind, "a"), nil); got != (place{}) {
			t.Errorf("kind %d, a in nothing: %v", kind, got)
		}
	}
}

func TestOtherKinds(t *testing.T) { // P6.1
	for _, kind := range []int{0, -1, api.Late, api.Eof, api.Death, api.Full, 8, 257, 1<<32 + 1, math.MinInt, math.MaxInt} {
		for _, text := range []string{"", "a", "[", "*", strings.Repeat("a", 257)} {
			wrong(t, kind, text, api.ErrArg, 0)
		}
	}
}

func TestLongTexts(t *testing.T) { // P6.1
	for _, kind := range kinds() {
		long := strings.Repeat("ab", 128)
		p := made(t, kind, long)
		if got := found(p, []byte("b"+long+"a")); got != (place{1, 257, true}) {
			t.Errorf("kind %d, 256 bytes: %v", kind, got)
		}
		if got := found(p, []byte(long[:255])); got != (place{}) {
			t.Errorf("kind %d, 256 bytes in 255: %v", kind, got)
		}
		wrong(t, kind, long+"a", api.ErrLong, 0)
		wrong(t, kind, strings.Repeat("*", 257), api.ErrLong, 0)
		wrong(t, kind, strings.Repeat("[", 257), api.ErrLong, 0)
		wrong(t, kind, strings.Repeat("x", 1<<20), api.ErrLong, 0)
	}
	for _, sign := range []string{"*", "?", "[", `\`, "|", "(", "\x00", "\xff"} {
		long := strings.Repeat(sign, 256)
		if got := found(made(t, api.Exact, long), []byte("-"+long+sign)); got != (place{1, 257, true}) {
			t.Errorf("256 of %q: %v", sign, got)
		}
		wrong(t, api.Exact, long+sign, api.ErrLong, 0)
	}
}

func TestFlaws(t *testing.T) { // P6.1
	for _, x := range []struct {
		kind int
		text string
		code api.Errno
		at   int
	}{
		{api.Glob, "[", api.ErrEnd, 1},
		{api.Glob, "a[", api.ErrEnd, 2},
		{api.Glob, "[]", api.ErrEnd, 2},
		{api.Glob, "[a", api.ErrEnd, 2},
		{api.Glob, `ab\`, api.ErrEnd, 3},
		{api.Glob, "[z-a]", api.ErrRange, 1},
		{api.Glob, `x[a\z-a`, api.ErrRange, 3},
		{api.Glob, strings.Repeat("a", 255) + "[", api.ErrEnd, 256},

		{api.Regex, "*", api.ErrSign, 0},
		{api.Regex, "a|+", api.ErrSign, 2},
		{api.Regex, "a)", api.ErrSign, 1},
		{api.Regex, "a[]", api.ErrSign, 2},
		{api.Regex, `ab\q`, api.ErrSign, 2},
		{api.Regex, "(a", api.ErrEnd, 2},
		{api.Regex, "[a", api.ErrEnd, 2},
		{api.Regex, `abc\`, api.ErrEnd, 4},
		{api.Regex, "a[b-a]", api.ErrRange, 2},
		{api.Regex, "[b-a](", api.ErrRange, 1},
		{api.Regex, strings.Repeat("a", 255) + "(", api.ErrEnd, 256},
	} {
		wrong(t, x.kind, x.text, x.code, x.at)
	}
}

func TestFlawsOfLayers(t *testing.T) { // P6.1
	r := rand.New(rand.NewSource(1))
	const letters = `ab-!^?*+.|()[]\`
	for range 20000 {
		text := make([]byte, r.Intn(9))
		for i := range text {
			text[i] = letters[r.Intn(len(letters))]
		}
		made(t, api.Exact, string(text))
		for _, x := range []struct {
			kind  int
			parse parser
		}{{api.Glob, glob.Parse}, {api.Regex, rex.Parse}} {
			if _, code, at := x.parse(string(text)); code != api.OK {
				wrong(t, x.kind, string(text), code, at)
			} else {
				made(t, x.kind, string(text))
			}
		}
	}
}

// TestTooLarge hands in trees that no text of at most 256 bytes makes.
func TestTooLarge(t *testing.T) { // P6.1
	flat := func(nodes int) parser {
		return func(string) (api.Node, api.Errno, int) {
			kid := api.Node{Kind: api.Cat}
			return api.Node{Kind: api.Cat, Kids: slices.Repeat([]api.Node{kid}, nodes-1)}, api.OK, 0
		}
	}
	deep := func(levels int) parser {
		return func(string) (api.Node, api.Errno, int) {
			n := api.Node{Kind: api.Cat}
			for range levels - 1 {
				n = api.Node{Kind: api.Maybe, Kids: []api.Node{n}}
			}
			return n, api.OK, 0
		}
	}
	for name, x := range map[string]struct {
		parse parser
		want  api.Errno
	}{
		"1000 nodes": {flat(1000), api.OK},
		"1001 nodes": {flat(1001), api.ErrSize},
		"300 deep":   {deep(300), api.OK},
		"301 deep":   {deep(301), api.ErrSize},
	} {
		prog, code, at := machine("a", x.parse)
		if code != x.want || at != 0 || (prog == nil) != (code != api.OK) {
			t.Errorf("%s: %v, %d, %d", name, prog, code, at)
		}
	}
}

// TestGreatest are texts whose trees have the most nodes and the most levels.
func TestGreatest(t *testing.T) { // P6.1
	for _, x := range []struct {
		kind int
		text string
	}{
		{api.Glob, strings.Repeat("*", 256)},
		{api.Glob, strings.Repeat("?", 256)},
		{api.Regex, "a" + strings.Repeat("*", 255)},
		{api.Regex, "a" + strings.Repeat("+", 255)},
		{api.Regex, strings.Repeat("(", 128) + strings.Repeat(")", 128)},
		{api.Regex, strings.Repeat("(|", 85) + strings.Repeat(")", 85)},
		{api.Regex, strings.Repeat("(|", 64) + strings.Repeat(")*", 64)},
		{api.Regex, strings.Repeat("|", 256)},
		{api.Regex, strings.Repeat("(|)", 85)},
	} {
		p := made(t, x.kind, x.text)
		if from, _, ok := p.Find(bytes.Repeat([]byte("a"), 2000)); from != 0 || !ok {
			t.Errorf("%d %.20q: %d, %v", x.kind, x.text, from, ok)
		}
	}
}

func TestEveryByte(t *testing.T) { // P6.1
	all := make([]byte, 256)
	for b := range all {
		all[b] = byte(b)
	}
	for b := range 256 {
		for _, p := range []*Pattern{made(t, api.Exact, string(all[b:b+1])), made(t, api.Glob, `\`+string(all[b:b+1])), made(t, api.Regex, "["+rexByte(all[b])+"]")} {
			if got := found(p, all); got != (place{b, b + 1, true}) {
				t.Errorf("%d %q: %v", p.Kind(), p.Text(), got)
			}
		}
	}
	for _, kind := range []int{api.Exact, api.Glob} {
		if got := found(made(t, kind, "\xff\xfe\x00"), []byte("\xff\xff\xfe\x00\xc3")); got != (place{1, 4, true}) {
			t.Errorf("kind %d: %v", kind, got)
		}
	}
}

func rexByte(b byte) string {
	if strings.IndexByte(`]^\-`, b) >= 0 {
		return `\` + string([]byte{b})
	}
	return string([]byte{b})
}

// texts are patterns of each kind that are short and right.
func texts(r *rand.Rand, kind int) string {
	parts := map[int][]string{
		api.Exact: {"a", "b", "*", "?", "[", `\`, "\n", "\x00", "\xff"},
		api.Glob:  {"a", "b", "?", "*", "[ab]", "[!a]", `\*`, `\?`, "\n", "\xff"},
		api.Regex: {"a", "b", "c", "a*", "b+", "(ab)?", "(a|bc)", "(|b)*", ".", "[ab]", "[^a]", `\n`, "|", `\*`, "(a*b)+"},
	}[kind]
	var out strings.Builder
	for range r.Intn(5) {
		out.WriteString(parts[r.Intn(len(parts))])
	}
	return out.String()
}

func buffers(r *rand.Rand, kind int) []byte {
	letters := "aaabbb*?[\\\n\x00\xff"
	if kind == api.Regex {
		letters = "aaabbbc*\n"
	}
	out := make([]byte, r.Intn(12))
	for i := range out {
		out[i] = letters[r.Intn(len(letters))]
	}
	return out
}

func TestFindAgainstMatchers(t *testing.T) { // P6.1
	r := rand.New(rand.NewSource(2))
	for range 4000 {
		for _, kind := range kinds() {
			text, buffer := texts(r, kind), buffers(r, kind)
			want := search(buffer, matcher(kind, text))
			if got := found(made(t, kind, text), buffer); got != want {
				t.Fatalf("%d %q in %q: %v, not %v", kind, text, buffer, got, want)
			}
		}
	}
}

func TestExactInAnyBytes(t *testing.T) { // P6.1
	r := rand.New(rand.NewSource(3))
	for range 500 {
		buffer := make([]byte, r.Intn(2000))
		r.Read(buffer)
		from := r.Intn(len(buffer) + 1)
		piece := buffer[from:min(len(buffer), from+r.Intn(257))]
		first := bytes.Index(buffer, piece)
		if got := found(made(t, api.Exact, string(piece)), buffer); got != (place{first, first + len(piece), true}) {
			t.Fatalf("%q in %d bytes: %v, not %d", piece, len(buffer), got, first)
		}
	}
}

func TestLongerBuffers(t *testing.T) { // P6.2
	r := rand.New(rand.NewSource(4))
	for range 4000 {
		for _, kind := range kinds() {
			p, buffer := made(t, kind, texts(r, kind)), append(buffers(r, kind), buffers(r, kind)...)
			last := place{from: len(buffer)}
			for size := range len(buffer) + 1 {
				got := found(p, buffer[:size])
				if last.ok && !got.ok || got.ok && (got.from > last.from || got.to > size || got.from > got.to) {
					t.Fatalf("%d %q in %q: %v, then %v", kind, p.Text(), buffer[:size], last, got)
				}
				if got.ok {
					last = got
				}
			}
		}
	}
}

func TestArguments(t *testing.T) { // P6.3
	for _, kind := range kinds() {
		p, other := made(t, kind, "ab"), made(t, kind, "b")
		room := []byte("xxabyyabzz")
		buffer := room[:5]
		if got := found(p, buffer); got != (place{2, 4, true}) {
			t.Fatalf("kind %d: %v", kind, got)
		}
		if string(room) != "xxabyyabzz" {
			t.Errorf("kind %d: the buffer has become %q", kind, room)
		}
		copy(buffer, "abxxx")
		if got := found(p, buffer); got != (place{0, 2, true}) {
			t.Errorf("kind %d, written over: %v", kind, got)
		}
		copy(buffer, "zzzzz")
		if got := found(p, buffer); got != (place{}) {
			t.Errorf("kind %d, nothing left of it: %v", kind, got)
		}
		if got := found(other, []byte("aab")); got != (place{2, 3, true}) {
			t.Errorf("kind %d, another pattern: %v", kind, got)
		}
		if p.Kind() != kind || p.Text() != "ab" {
			t.Errorf("kind %d: made of %d, %q", kind, p.Kind(), p.Text())
		}
	}
}

func TestTextWrittenOver(t *testing.T) { // P6.3
	for _, kind := range kinds() {
		from := []byte("ab")
		p := made(t, kind, string(from))
		copy(from, "xy")
		if got := found(p, []byte("xyab")); got != (place{2, 4, true}) || p.Text() != "ab" {
			t.Errorf("kind %d: %v, %q", kind, got, p.Text())
		}
	}
}

func TestSameAnswerAgain(t *testing.T) { // P2
	r := rand.New(rand.NewSource(5))
	for range 500 {
		for _, kind := range kinds() {
			text, buffer := texts(r, kind), buffers(r, kind)
			p := made(t, kind, text)
			first := found(p, buffer)
			found(p, buffers(r, kind))
			if again, anew := found(p, buffer), found(made(t, kind, text), buffer); again != first || anew != first {
				t.Fatalf("%d %q in %q: %v, %v, %v", kind, text, buffer, first, again, anew)
			}
		}
	}
}
