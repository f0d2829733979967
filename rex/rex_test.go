package rex

import (
	"math/rand"
	"reflect"
	"strings"
	"testing"

	"colloquy/api"
)

func setOf(rs ...api.Range) api.Node { return api.Node{Kind: api.Set, Ranges: rs} }

func span(lo, hi byte) api.Range { return api.Range{Lo: lo, Hi: hi} }

func byteOf(b byte) api.Node { return setOf(span(b, b)) }

func of(kind int, kids ...api.Node) api.Node { return api.Node{Kind: kind, Kids: kids} }

func cat(kids ...api.Node) api.Node { return of(api.Cat, kids...) }

func alt(kids ...api.Node) api.Node { return of(api.Alt, kids...) }

func point() api.Node { return setOf(span(0, 9), span(11, 255)) }

// rising are bytes, or all others, as ranges, byte by byte.
func rising(in [256]bool, not bool) []api.Range {
	var out []api.Range
	for b := 0; b < 256; b++ {
		from := b
		for b < 256 && in[b] != not {
			b++
		}
		if from < b {
			out = append(out, span(byte(from), byte(b-1)))
		}
	}
	return out
}

// level is what has been read within one ( ): the parts that are over, and the one that isn't.
type level struct {
	parts []api.Node
	part  api.Node
}

func (l level) over() api.Node {
	if len(l.parts) == 0 {
		return l.part
	}
	return alt(append(l.parts, l.part)...)
}

// read is the document's form by a pile of levels, without calls within calls.
func read(pattern string) (api.Node, api.Errno, int) {
	if len(pattern) > 256 {
		return api.Node{}, api.ErrLong, 0
	}
	pile := []level{{part: cat()}}
	signs := map[byte]int{'*': api.Star, '+': api.Plus, '?': api.Maybe}
	at := 0
	for at < len(pattern) {
		top := &pile[len(pile)-1]
		kids := top.part.Kids
		from := at
		at++
		switch c := pattern[from]; c {
		case '(':
			pile = append(pile, level{part: cat()})
		case ')':
			if len(pile) == 1 {
				return api.Node{}, api.ErrSign, from
			}
			pile = pile[:len(pile)-1]
			below := &pile[len(pile)-1]
			below.part.Kids = append(below.part.Kids, top.over())
		case '|':
			top.parts = append(top.parts, top.part)
			top.part = cat()
		case '*', '+', '?':
			if len(kids) == 0 {
				return api.Node{}, api.ErrSign, from
			}
			kids[len(kids)-1] = of(signs[c], kids[len(kids)-1])
		case '.':
			top.part.Kids = append(kids, point())
		case '[':
			set, behind, flaw := readClass(pattern, at)
			if flaw.Code != api.OK {
				return api.Node{}, flaw.Code, flaw.At
			}
			at = behind
			top.part.Kids = append(kids, set)
		default:
			if strings.HasPrefix(pattern[from:], `\d`) {
				at++
				top.part.Kids = append(kids, setOf(span('0', '9')))
				continue
			}
			b, size, flaw := readByte(pattern, from)
			if flaw.Code != api.OK {
				return api.Node{}, flaw.Code, flaw.At
			}
			at = from + size
			top.part.Kids = append(kids, byteOf(b))
		}
	}
	if len(pile) > 1 {
		return api.Node{}, api.ErrEnd, len(pattern)
	}
	return pile[0].over(), api.OK, 0
}

func readByte(pattern string, at int) (byte, int, api.Flaw) {
	rest := pattern[at:]
	switch {
	case rest == "" || rest == `\`:
		return 0, 0, api.Flaw{Code: api.ErrEnd, At: len(pattern)}
	case rest[0] != '\\':
		return rest[0], 1, api.Flaw{}
	case rest[1] == 'n':
		return 10, 2, api.Flaw{}
	case rest[1] == 't':
		return 9, 2, api.Flaw{}
	case strings.Contains("abcdefghijklmnopqrstuvwxyzABCDEFGHIJKLMNOPQRSTUVWXYZ0123456789", rest[1:2]):
		return 0, 0, api.Flaw{Code: api.ErrSign, At: at}
	}
	return rest[1], 2, api.Flaw{}
}

// readClass reads what stands behind a [, and answers the place behind its ].
func readClass(pattern string, at int) (api.Node, int, api.Flaw) {
	var in [256]bool
	not := strings.HasPrefix(pattern[at:], "^")
	if not {
		at++
	}
	for count := 0; ; count++ {
		if strings.HasPrefix(pattern[at:], "]") {
			if count == 0 {
				return api.Node{}, 0, api.Flaw{Code: api.ErrSign, At: at}
			}
			return setOf(rising(in, not)...), at + 1, api.Flaw{}
		}
		lo, size, flaw := readByte(pattern, at)
		if flaw.Code != api.OK {
			return api.Node{}, 0, flaw
		}
		from := at
		at += size
		hi := lo
		if rest := pattern[at:]; len(rest) > 1 && rest[0] == '-' && rest[1] != ']' {
			hi, size, flaw = readByte(pattern, at+1)
			if flaw.Code != api.OK {
				return api.Node{}, 0, flaw
			}
			at += 1 + size
		}
		if lo > hi {
			return api.Node{}, 0, api.Flaw{Code: api.ErrRange, At: from}
		}
		for b := int(lo); b <= int(hi); b++ {
			in[b] = true
		}
	}
}

// told is a tree's text by the document's words, in calls within calls.
func told(n api.Node) string {
	var texts []string
	for _, kid := range n.Kids {
		text := told(kid)
		if kid.Kind == api.Alt || kid.Kind == api.Cat && n.Kind != api.Alt {
			text = "(" + text + ")"
		}
		texts = append(texts, text)
	}
	switch n.Kind {
	case api.Set:
		return toldSet(n.Ranges)
	case api.Cat:
		return strings.Join(texts, "")
	case api.Alt:
		return strings.Join(texts, "|")
	case api.Star, api.Plus, api.Maybe:
		if len(texts) > 0 {
			return texts[0] + map[int]string{api.Star: "*", api.Plus: "+", api.Maybe: "?"}[n.Kind]
		}
	}
	return ""
}

func toldSet(rs []api.Range) string {
	var in [256]bool
	count, last := 0, 0
	for _, r := range rs {
		for b := int(r.Lo); b <= int(r.Hi); b++ {
			if !in[b] {
				count++
			}
			in[b], last = true, b
		}
	}
	special := map[byte]string{10: `\n`, 9: `\t`}
	if count == 1 {
		if text, ok := special[byte(last)]; ok {
			return text
		}
		text := string([]byte{byte(last)})
		if strings.Contains(`|()*+?.[\`, text) {
			return `\` + text
		}
		return text
	}
	if count == 255 && !in[10] {
		return "."
	}
	yes, no := rising(in, false), rising(in, true)
	if count == 0 {
		return "[^\x00-\xff]"
	}
	out, list := "[", yes
	if len(no) > 0 && len(no) < len(yes) {
		out, list = "[^", no
	}
	write := func(b byte) {
		switch text := string([]byte{b}); {
		case special[b] != "":
			out += special[b]
		case strings.Contains(`]^-\`, text):
			out += `\` + text
		default:
			out += text
		}
	}
	for _, r := range list {
		write(r.Lo)
		if r.Hi > r.Lo {
			out += "-"
			write(r.Hi)
		}
	}
	return out + "]"
}

// words are all texts of these bytes, up to a length.
func words(letters string, size int) []string {
	out := []string{""}
	for from := 0; size > 0; size-- {
		to := len(out)
		for _, w := range out[from:to] {
			for i := range len(letters) {
				out = append(out, w+letters[i:i+1])
			}
		}
		from = to
	}
	return out
}

// check holds a pattern's tree and error, the tree's text, and that text's tree, against what the document says.
func check(t *testing.T, pattern string) { // P4.1, P4.2
	t.Helper()
	n, code, at := Parse(pattern)
	want, wantCode, wantAt := read(pattern)
	if code != wantCode || at != wantAt || !reflect.DeepEqual(n, want) {
		t.Fatalf("Parse(%q) = %v, %d, %d, not %v, %d, %d", pattern, n, code, at, want, wantCode, wantAt)
	}
	if code != api.OK {
		return
	}
	text := Text(n)
	if text != told(n) {
		t.Fatalf("Parse(%q) has the text %q, not %q", pattern, text, told(n))
	}
	if len(text) > 256 {
		return
	}
	if again, code, at := Parse(text); code != api.OK || at != 0 || !reflect.DeepEqual(again, n) {
		t.Fatalf("Parse(%q) has the text %q, whose tree is %v, %d, %d", pattern, text, again, code, at)
	}
}

func TestParseTrees(t *testing.T) { // P4.1
	a, b := byteOf('a'), byteOf('b')
	for pattern, want := range map[string]api.Node{
		"":         cat(),
		"a":        cat(a),
		"ab":       cat(a, b),
		"a|b*":     alt(cat(a), cat(of(api.Star, b))),
		"|":        alt(cat(), cat()),
		"a||b":     alt(cat(a), cat(), cat(b)),
		"|a|":      alt(cat(), cat(a), cat()),
		"a*":       cat(of(api.Star, a)),
		"a+":       cat(of(api.Plus, a)),
		"a?":       cat(of(api.Maybe, a)),
		"a*+?":     cat(of(api.Maybe, of(api.Plus, of(api.Star, a)))),
		"a**b":     cat(of(api.Star, of(api.Star, a)), b),
		"ab+":      cat(a, of(api.Plus, b)),
		"()":       cat(cat()),
		"()()":     cat(cat(), cat()),
		"()*":      cat(of(api.Star, cat())),
		"((a))":    cat(cat(cat(a))),
		"(a)":      cat(cat(a)),
		"(a|b)":    cat(alt(cat(a), cat(b))),
		"(|)+":     cat(of(api.Plus, alt(cat(), cat()))),
		"(ab)?a":   cat(of(api.Maybe, cat(a, b)), a),
		"((a|)b|)": cat(alt(cat(alt(cat(a), cat()), b), cat())),
		".":        cat(point()),
		`\d\n\t`:   cat(setOf(span('0', '9')), byteOf(10), byteOf(9)),
		`\d+`:      cat(of(api.Plus, setOf(span('0', '9')))),

		`\|\(\)\*\+\?\.\[\\`: cat(byteOf('|'), byteOf('('), byteOf(')'), byteOf('*'), byteOf('+'), byteOf('?'), byteOf('.'), byteOf('['), byteOf('\\')),
		`\]\^\-\ \_`:         cat(byteOf(']'), byteOf('^'), byteOf('-'), byteOf(' '), byteOf('_')),
		"\\\x00\\\n\\\xff":   cat(byteOf(0), byteOf(10), byteOf(255)),
		"\x00\t\n\xff":       cat(byteOf(0), byteOf(9), byteOf(10), byteOf(255)),
		"]^-$!{}dnt":         cat(byteOf(']'), byteOf('^'), byteOf('-'), byteOf('$'), byteOf('!'), byteOf('{'), byteOf('}'), byteOf('d'), byteOf('n'), byteOf('t')),
		"]*":                 cat(of(api.Star, byteOf(']'))),
		`\\d`:                cat(byteOf('\\'), byteOf('d')),

		"[a]":       cat(a),
		"[aa]":      cat(a),
		"[b-da]":    cat(setOf(span('a', 'd'))),
		"[a-a]":     cat(a),
		"[a-dc-f]":  cat(setOf(span('a', 'f'))),
		"[a-fc-d]":  cat(setOf(span('a', 'f'))),
		"[a-cd-f]":  cat(setOf(span('a', 'f'))),
		"[fa]":      cat(setOf(span('a', 'a'), span('f', 'f'))),
		"[^a]":      cat(setOf(span(0, '`'), span('b', 255))),
		"[a^]":      cat(setOf(span('^', '^'), span('a', 'a'))),
		"[^^]":      cat(setOf(span(0, ']'), span('_', 255))),
		`[\^]`:      cat(byteOf('^')),
		`[\^a]`:     cat(setOf(span('^', '^'), span('a', 'a'))),
		"[^^-a]":    cat(setOf(span(0, ']'), span('b', 255))),
		"[A-^]":     cat(setOf(span('A', '^'))),
		"[!a]":      cat(setOf(span('!', '!'), span('a', 'a'))),
		`[\]]`:      cat(byteOf(']')),
		`[a\]]`:     cat(setOf(span(']', ']'), span('a', 'a'))),
		"[a]]":      cat(a, byteOf(']')),
		`[A-\]]`:    cat(setOf(span('A', ']'))),
		`[\]-a]`:    cat(setOf(span(']', 'a'))),
		`[^\]]`:     cat(setOf(span(0, '\\'), span('^', 255))),
		"[-]":       cat(byteOf('-')),
		"[--]":      cat(byteOf('-')),
		"[---]":     cat(byteOf('-')),
		"[-a]":      cat(setOf(span('-', '-'), span('a', 'a'))),
		"[a-]":      cat(setOf(span('-', '-'), span('a', 'a'))),
		"[^-]":      cat(setOf(span(0, ','), span('.', 255))),
		"[+--]":     cat(setOf(span('+', '-'))),
		"[a-c-e]":   cat(setOf(span('-', '-'), span('a', 'c'), span('e', 'e'))),
		`[a\-z]`:    cat(setOf(span('-', '-'), span('a', 'a'), span('z', 'z'))),
		`[+-\-]`:    cat(setOf(span('+', '-'))),
		`[\--0]`:    cat(setOf(span('-', '0'))),
		`[\t-\n]`:   cat(setOf(span(9, 10))),
		`[\n\t]`:    cat(setOf(span(9, 10))),
		`[\n-n]`:    cat(setOf(span(10, 'n'))),
		`[\\]`:      cat(byteOf('\\')),
		"[[]":       cat(byteOf('[')),
		"[|()*+?.]": cat(setOf(span('(', '+'), span('.', '.'), span('?', '?'), span('|', '|'))),
		"[dnt]":     cat(setOf(span('d', 'd'), span('n', 'n'), span('t', 't'))),
		`[^\n]`:     cat(point()),
		"[a-c]*":    cat(of(api.Star, setOf(span('a', 'c')))),

		"[\x00\t-\n\xff]": cat(setOf(span(0, 0), span(9, 10), span(255, 255))),
		"[^\x00\xff]":     cat(setOf(span(1, 254))),
		"[\x00-\xff]":     cat(setOf(span(0, 255))),
		"[^\x00-\xff]":    cat(setOf()),
	} {
		if n, code, at := Parse(pattern); code != api.OK || at != 0 || !reflect.DeepEqual(n, want) {
			t.Errorf("Parse(%q) = %v, %d, %d, not %v", pattern, n, code, at, want)
		}
		check(t, pattern)
	}
}

func TestParseWrong(t *testing.T) { // P4.1, DOC P1: the first error that is come to
	long := strings.Repeat("a", 256)
	for pattern, want := range map[string]api.Flaw{
		"*": {Code: api.ErrSign}, "+": {Code: api.ErrSign}, "?": {Code: api.ErrSign}, "a|*": {Code: api.ErrSign, At: 2}, "|+": {Code: api.ErrSign, At: 1}, "(?": {Code: api.ErrSign, At: 1}, "(*)": {Code: api.ErrSign, At: 1}, "(a|+)": {Code: api.ErrSign, At: 3}, "()|?": {Code: api.ErrSign, At: 3},
		")": {Code: api.ErrSign}, "a)": {Code: api.ErrSign, At: 1}, "())": {Code: api.ErrSign, At: 2}, "a|)": {Code: api.ErrSign, At: 2}, "(a))(": {Code: api.ErrSign, At: 3}, ")*": {Code: api.ErrSign},
		"(": {Code: api.ErrEnd, At: 1}, "(a": {Code: api.ErrEnd, At: 2}, "(a|": {Code: api.ErrEnd, At: 3}, "(()": {Code: api.ErrEnd, At: 3}, "((a)*": {Code: api.ErrEnd, At: 5}, `(\)`: {Code: api.ErrEnd, At: 3}, "([)]": {Code: api.ErrEnd, At: 4},
		`\`: {Code: api.ErrEnd, At: 1}, `a\`: {Code: api.ErrEnd, At: 2}, `(\`: {Code: api.ErrEnd, At: 2}, `\\\`: {Code: api.ErrEnd, At: 3},
		`\q`: {Code: api.ErrSign}, `x\q`: {Code: api.ErrSign, At: 1}, `\0`: {Code: api.ErrSign}, `\N`: {Code: api.ErrSign}, `\D`: {Code: api.ErrSign}, `\n\T`: {Code: api.ErrSign, At: 2}, `(\a`: {Code: api.ErrSign, At: 1}, `\z*)`: {Code: api.ErrSign},
		"[": {Code: api.ErrEnd, At: 1}, "[^": {Code: api.ErrEnd, At: 2}, "[a": {Code: api.ErrEnd, At: 2}, "[^a": {Code: api.ErrEnd, At: 3}, "[a-": {Code: api.ErrEnd, At: 3}, "[a-b": {Code: api.ErrEnd, At: 4}, `[\`: {Code: api.ErrEnd, At: 2}, `[\]`: {Code: api.ErrEnd, At: 3}, `[a-\`: {Code: api.ErrEnd, At: 4}, `[A-\]`: {Code: api.ErrEnd, At: 5}, `[z-\`: {Code: api.ErrEnd, At: 4},
		"[]": {Code: api.ErrSign, At: 1}, "[^]": {Code: api.ErrSign, At: 2}, "[]a]": {Code: api.ErrSign, At: 1}, "[^]a]": {Code: api.ErrSign, At: 2}, "a[]": {Code: api.ErrSign, At: 2}, "([]": {Code: api.ErrSign, At: 2},
		`[\d]`: {Code: api.ErrSign, At: 1}, `[a\d]`: {Code: api.ErrSign, At: 2}, `[a-\d]`: {Code: api.ErrSign, At: 3}, `[\d-z]`: {Code: api.ErrSign, At: 1}, `[a-\q]`: {Code: api.ErrSign, At: 3}, `[z-\a]`: {Code: api.ErrSign, At: 3}, `[^\1]`: {Code: api.ErrSign, At: 2}, `[\q`: {Code: api.ErrSign, At: 1},
		"[b-a]": {Code: api.ErrRange, At: 1}, "[^b-a]": {Code: api.ErrRange, At: 2}, `[a\^-A]`: {Code: api.ErrRange, At: 2}, `[a-\]]`: {Code: api.ErrRange, At: 1}, `[a-\n]`: {Code: api.ErrRange, At: 1}, `[\n-\t]`: {Code: api.ErrRange, At: 1}, "[a--]": {Code: api.ErrRange, At: 1}, "[a-^]": {Code: api.ErrRange, At: 1}, "[\xff-\x00]": {Code: api.ErrRange, At: 1}, "[a-cf-d]": {Code: api.ErrRange, At: 4},
		"[b-a": {Code: api.ErrRange, At: 1}, "([b-a": {Code: api.ErrRange, At: 2}, `[b-a\q]`: {Code: api.ErrRange, At: 1}, "[b-a]*)": {Code: api.ErrRange, At: 1}, "*[b-a]": {Code: api.ErrSign}, `[b-a]\`: {Code: api.ErrRange, At: 1},
		long: {}, long + "a": {Code: api.ErrLong}, "*" + long: {Code: api.ErrLong}, long + ")": {Code: api.ErrLong}, strings.Repeat("(", 1<<20): {Code: api.ErrLong},
		long[:255] + `\`: {Code: api.ErrEnd, At: 256}, long[:255] + "(": {Code: api.ErrEnd, At: 256}, long[:255] + ")": {Code: api.ErrSign, At: 255}, strings.Repeat("(", 256): {Code: api.ErrEnd, At: 256}, strings.Repeat("(", 128) + strings.Repeat(")", 128): {}, "a" + strings.Repeat("*", 255): {}, strings.Repeat("|", 256): {},
	} {
		n, code, at := Parse(pattern)
		if code != want.Code || at != want.At || code != api.OK && !reflect.DeepEqual(n, api.Node{}) {
			t.Errorf("Parse(%.40q) = %v, %d, %d, not %v", pattern, n, code, at, want)
		}
		check(t, pattern)
	}
}

func TestParseEachByte(t *testing.T) { // P4.1
	for c := range 256 {
		b := string([]byte{byte(c)})
		for _, pattern := range []string{b, `\` + b, "[" + b + "]", `[\` + b + "]", "[^" + b + "]", "[a" + b + "]", "[a-" + b + "]", "[" + b + "-a]", `[a-\` + b + "]", "x" + b + "y", "(" + b + ")*"} {
			check(t, pattern)
		}
	}
}

func TestParseAsTheFormSays(t *testing.T) { // P4.1, P4.2
	for _, pattern := range words(`ab|()*?[\`, 5) {
		check(t, pattern)
	}
	for _, items := range words(`ad-^]\`, 5) {
		check(t, "["+items)
		check(t, "["+items+"]")
		check(t, "["+items+"]+")
	}
	r := rand.New(rand.NewSource(6))
	for range 20000 {
		pattern := randomPattern(r, 3)
		check(t, pattern)
		check(t, pattern+pattern+pattern)
		at, b := r.Intn(len(pattern)+1), randomByte(r)
		check(t, pattern[:at]+b+pattern[at:])
		check(t, pattern[:at])
		check(t, pattern[at:])
	}
}

// pick is one of a text's bytes.
func pick(r *rand.Rand, letters string) string {
	i := r.Intn(len(letters))
	return letters[i : i+1]
}

func randomByte(r *rand.Rand) string {
	if r.Intn(2) == 0 {
		return pick(r, "|()*+?.[]\\^-dnt0a\x00\t\n\xff")
	}
	return string([]byte{byte(r.Intn(256))})
}

// randomPattern is one that mostly is right.
func randomPattern(r *rand.Rand, deep int) string {
	out := ""
	for range r.Intn(5) {
		switch k := r.Intn(8); {
		case k == 0 && deep > 0:
			out += "(" + randomPattern(r, deep-1) + ")"
		case k == 1:
			out += "[" + strings.Repeat("^", r.Intn(2))
			for range 1 + r.Intn(4) {
				out += `\` + pick(r, "]^-\\nt!~\xff")
				if r.Intn(3) == 0 {
					out += "-" + pick(r, "\x7f~z\xfe")
				}
			}
			out += "]"
		case k == 2:
			out += "|"
			continue
		case k == 3:
			out += []string{".", `\d`, `\n`, `\t`, `\\`, `\.`}[r.Intn(6)]
		default:
			out += pick(r, "abc]^-")
		}
		for range r.Intn(4) - 1 {
			out += pick(r, "*+?")
		}
	}
	return out
}

// lists fails, if two lists of a tree share memory, spare room too.
func lists(t *testing.T, n api.Node, seenRanges map[*api.Range]bool, seenKids map[*api.Node]bool) {
	t.Helper()
	for i := range n.Ranges[:cap(n.Ranges)] {
		p := &n.Ranges[:cap(n.Ranges)][i]
		if seenRanges[p] {
			t.Fatal("two lists share ranges")
		}
		seenRanges[p] = true
	}
	for i := range n.Kids[:cap(n.Kids)] {
		p := &n.Kids[:cap(n.Kids)][i]
		if seenKids[p] {
			t.Fatal("two lists share kids")
		}
		seenKids[p] = true
	}
	for _, kid := range n.Kids {
		lists(t, kid, seenRanges, seenKids)
	}
}

// spoil writes over all memory of a tree.
func spoil(n api.Node) {
	for _, kid := range n.Kids {
		spoil(kid)
	}
	clear(n.Ranges[:cap(n.Ranges)])
	clear(n.Kids[:cap(n.Kids)])
}

func TestTreesAreNew(t *testing.T) { // P4.3
	for _, pattern := range []string{`..\d\daa[a-c][a-c][^a][^a]`, "a|b|(c|d|e)*(()())+|f?g??", "|||||", ""} {
		ranges, kids := map[*api.Range]bool{}, map[*api.Node]bool{}
		first, _, _ := Parse(pattern)
		lists(t, first, ranges, kids)
		second, _, _ := Parse(pattern)
		lists(t, second, ranges, kids)
		spoil(first)
		want, _, _ := read(pattern)
		if third, _, _ := Parse(pattern); !reflect.DeepEqual(second, want) || !reflect.DeepEqual(third, want) {
			t.Errorf("what is written into one answer for %q is seen in another", pattern)
		}
	}
}
