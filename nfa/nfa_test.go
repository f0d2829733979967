package nfa

import (
	"math"
	"math/rand"
	"reflect"
	"regexp"
	"slices"
	"strings"
	"testing"

	"colloquy/api"
	"colloquy/rex"
)

func set(rs ...api.Range) api.Node { return api.Node{Kind: api.Set, Ranges: rs} }

func span(lo, hi byte) api.Range { return api.Range{Lo: lo, Hi: hi} }

func one(b byte) api.Node { return set(span(b, b)) }

func node(kind int, kids ...api.Node) api.Node { return api.Node{Kind: kind, Kids: kids} }

func machine(t *testing.T, n api.Node) *Prog {
	t.Helper()
	p, code := Compile(n)
	if p == nil || code != api.OK {
		t.Fatalf("Compile(%.200v) = %v, %d", n, p, code)
	}
	return p
}

func of(t *testing.T, pattern string) *Prog {
	t.Helper()
	n, code, _ := rex.Parse(pattern)
	if code != api.OK {
		t.Fatalf("%q: %d", pattern, code)
	}
	return machine(t, n)
}

// places are places of a text, each at most once.
type places map[int]struct{}

// ends are the places at which a piece may end that begins at from and that a tree matches, by the words of the document, node by node.
func ends(n api.Node, text string, from int) places {
	out := places{}
	switch n.Kind {
	case api.Set:
		for _, r := range n.Ranges {
			if from < len(text) && r.Lo <= text[from] && text[from] <= r.Hi {
				out[from+1] = struct{}{}
			}
		}
	case api.Cat:
		out[from] = struct{}{}
		for _, kid := range n.Kids {
			out = endsOfAll(kid, text, out)
		}
	case api.Alt:
		for _, kid := range n.Kids {
			for at := range ends(kid, text, from) {
				out[at] = struct{}{}
			}
		}
	case api.Star:
		out[from] = struct{}{}
		grow(n.Kids[0], text, out)
	case api.Plus:
		out = ends(n.Kids[0], text, from)
		grow(n.Kids[0], text, out)
	case api.Maybe:
		out = ends(n.Kids[0], text, from)
		out[from] = struct{}{}
	}
	return out
}

func endsOfAll(n api.Node, text string, froms places) places {
	out := places{}
	for from := range froms {
		for at := range ends(n, text, from) {
			out[at] = struct{}{}
		}
	}
	return out
}

// grow adds what a tree matches behind what is there, till there is no more.
func grow(n api.Node, text string, out places) {
	for before := -1; before != len(out); {
		before = len(out)
		for at := range endsOfAll(n, text, out) {
			out[at] = struct{}{}
		}
	}
}

func longest(n api.Node, text string, from int) int {
	best := -1
	if from >= 0 && from <= len(text) {
		for at := range ends(n, text, from) {
			best = max(best, at)
		}
	}
	return best
}

func find(n api.Node, text string) (int, int, bool) {
	for from := 0; from <= len(text); from++ {
		if to := longest(n, text, from); to >= 0 {
			return from, to, true
		}
	}
	return 0, 0, false
}

// check holds a machine against the words of the document at one text, and its steps against their bounds.
func check(t *testing.T, n api.Node, p *Prog, text string) {
	t.Helper()
	for from := -2; from <= len(text)+2; from++ {
		want := longest(n, text, from)
		if got := p.Longest(text, from); got != want {
			t.Fatalf("Longest(%q, %d) of %v = %d, not %d", text, from, n, got, want)
		}
		checkSteps(t, p, text, want-max(from, 0))
	}
	from, to, ok := find(n, text)
	if gotFrom, gotTo, gotOk := p.Find(text); gotFrom != from || gotTo != to || gotOk != ok {
		t.Fatalf("Find(%q) of %v = %d, %d, %v, not %d, %d, %v", text, n, gotFrom, gotTo, gotOk, from, to, ok)
	}
	checkSteps(t, p, text, to-from)
}

// checkSteps: each byte of a piece was met, and no byte by too many states.
func checkSteps(t *testing.T, p *Prog, text string, least int) {
	t.Helper()
	if p.Steps() < int64(least) || p.Steps() < 0 || p.Steps() > api.MaxStates*int64(len(text)) {
		t.Fatalf("%d steps in %d bytes", p.Steps(), len(text))
	}
}

// words are all texts of these letters up to a length.
func words(letters string, size int) []string {
	out := []string{""}
	for from := 0; size > 0; size-- {
		to := len(out)
		for ; from < to; from++ {
			for i := range len(letters) {
				out = append(out, out[from]+letters[i:i+1])
			}
		}
	}
	return out
}

func TestExamples(t *testing.T) { // P5.1
	p := of(t, "a*(b|bc)")
	if got := p.Longest("aabcd", 0); got != 4 {
		t.Errorf("Longest = %d", got)
	}
	if from, to, ok := p.Find("xabc"); from != 1 || to != 4 || !ok {
		t.Errorf("Find = %d, %d, %v", from, to, ok)
	}
	if from, to, ok := p.Find("ac"); from != 0 || to != 0 || ok {
		t.Errorf("Find = %d, %d, %v", from, to, ok)
	}
	if from, to, ok := machine(t, node(api.Star, node(api.Star, one('a')))).Find(""); from != 0 || to != 0 || !ok {
		t.Errorf("Find = %d, %d, %v", from, to, ok)
	}
}

func TestFind(t *testing.T) { // P5.1
	for _, x := range []struct {
		pattern, text string
		from, to      int
		ok            bool
	}{
		{"", "", 0, 0, true}, {"", "abc", 0, 0, true}, {"a", "", 0, 0, false}, {"a", "b", 0, 0, false}, {"a", "ba", 1, 2, true},
		{"a*", "baa", 0, 0, true}, {"a+", "baaba", 1, 3, true}, {"a?", "aa", 0, 1, true},
		{"abcd|bc", "abcd", 0, 4, true}, {"abcd|bc", "abcx", 1, 3, true}, {"abcd|bc|c", "abcx", 1, 3, true}, {"abcd|c", "abcabcd", 2, 3, true},
		{"bc|abcdx|cdef", "abcdef", 1, 3, true}, {"bc|abcde|cdef", "abcdef", 0, 5, true}, {"b|bcd", "abcx", 1, 2, true}, {"b|bcd", "abcd", 1, 4, true},
		{"b|abcb*d", "abcbbbbd", 0, 8, true}, {"b|abcb*d", "abcbbbb", 1, 2, true}, {"b+|abcb*d", "abbcbbd", 1, 3, true},
		{"(a|ab)(c|bcd)(d*)", "abcd", 0, 4, true}, {"(|a)+b", "aaab", 0, 4, true}, {"a(b|c)*d", "aabcbabccd", 5, 10, true},
		{"aab", "aaab", 1, 4, true}, {"abab", "ababaab", 0, 4, true}, {"abac", "ababac", 2, 6, true},
		{".", "\n\x00", 1, 2, true}, {"[^a]+", "aabba", 2, 4, true}, {"\\d+", "a 0129 5", 2, 6, true},
	} {
		if from, to, ok := of(t, x.pattern).Find(x.text); from != x.from || to != x.to || ok != x.ok {
			t.Errorf("Find(%q) of %q = %d, %d, %v", x.text, x.pattern, from, to, ok)
		}
	}
}

func TestLongest(t *testing.T) { // P5.1
	for _, x := range []struct {
		pattern, text string
		from, want    int
	}{
		{"ab?", "abab", 0, 2}, {"ab?", "abab", 2, 4}, {"ab?", "abab", 1, -1}, {"ab?", "abab", 4, -1}, {"ab?", "abab", 5, -1}, {"ab?", "abab", -1, -1},
		{"", "", 0, 0}, {"", "", -1, -1}, {"", "", 1, -1}, {"", "ab", 0, 0}, {"", "ab", 2, 2}, {"", "ab", 3, -1}, {"", "ab", math.MaxInt, -1}, {"", "ab", math.MinInt, -1},
		{"a*", "aab", 0, 2}, {"a*", "aab", 1, 2}, {"a*", "aab", 2, 2}, {"a*", "aab", 3, 3}, {"a*", "aab", 4, -1}, {"a*", "", 0, 0},
		{"a|abc", "abc", 0, 3}, {"a|abc", "abd", 0, 1}, {"abc|a", "abd", 0, 1}, {"b", "ab", 0, -1}, {"b", "ab", 1, 2},
	} {
		if got := of(t, x.pattern).Longest(x.text, x.from); got != x.want {
			t.Errorf("Longest(%q, %d) of %q = %d, not %d", x.text, x.from, x.pattern, got, x.want)
		}
	}
}

func TestTreesByHand(t *testing.T) { // P5.1: what no pattern makes
	a, b, none, all := one('a'), one('b'), set(), set(span(0, 255))
	nothing, empty := node(api.Alt), node(api.Cat)
	texts := words("ab", 4)
	for _, n := range []api.Node{
		a, none, all, nothing, empty,
		set(span('b', 'a')), set(span('b', 'a'), span('a', 'a')), set(span(255, 0)), set(span('a', 'b'), span('b', 'c'), span('a', 'a')),
		node(api.Cat, nothing), node(api.Cat, a, nothing), node(api.Alt, nothing, a), node(api.Alt, empty), node(api.Alt, a, empty, b), node(api.Cat, empty, a, empty),
		node(api.Star, nothing), node(api.Plus, nothing), node(api.Maybe, nothing), node(api.Star, none), node(api.Plus, none),
		node(api.Star, empty), node(api.Plus, empty), node(api.Maybe, empty),
		node(api.Star, node(api.Star, a)), node(api.Plus, node(api.Star, a)), node(api.Star, node(api.Plus, a)), node(api.Plus, node(api.Plus, a)), node(api.Star, node(api.Maybe, a)), node(api.Plus, node(api.Maybe, a)), node(api.Maybe, node(api.Star, a)), node(api.Maybe, node(api.Plus, a)),
		node(api.Star, node(api.Cat, node(api.Star, a), node(api.Star, b))), node(api.Plus, node(api.Alt, empty, node(api.Cat, a, b))), node(api.Star, node(api.Star, node(api.Alt, a, node(api.Star, b)))),
		node(api.Star, a, b), node(api.Plus, a, b, all), node(api.Maybe, a, b), node(api.Star, a, node(api.Star, b)), node(api.Maybe, nothing, all),
		{Kind: api.Set, Ranges: []api.Range{span('a', 'a')}, Kids: []api.Node{b}}, {Kind: api.Star, Ranges: []api.Range{span('b', 'b')}, Kids: []api.Node{a}}, {Kind: api.Cat, Ranges: []api.Range{span('b', 'b')}},
	} {
		p := machine(t, n)
		for _, text := range texts {
			check(t, n, p, text)
		}
	}
}

func TestBytes(t *testing.T) { // P5.1
	for _, rs := range [][]api.Range{nil, {}, {span(0, 255)}, {span(0, 0)}, {span(255, 255)}, {span(127, 128)}, {span(1, 0)}, {span(255, 0), span(10, 9)}, {span(0, 9), span(5, 20), span(30, 25), span(250, 255)}} {
		p := machine(t, set(rs...))
		for b := range 256 {
			want := -1
			for _, r := range rs {
				if int(r.Lo) <= b && b <= int(r.Hi) {
					want = 1
				}
			}
			text := string([]byte{byte(b)})
			if got := p.Longest(text, 0); got != want {
				t.Errorf("the byte %d of %v: %d", b, rs, got)
			}
			if _, to, ok := p.Find(text); ok != (want == 1) || ok && to != 1 {
				t.Errorf("the byte %d of %v: %d, %v", b, rs, to, ok)
			}
		}
	}
	if p := machine(t, set(make([]api.Range, 1<<20)...)); p.Longest("\x00", 0) != 1 || p.Longest("\x01", 0) != -1 {
		t.Error("a Set of many ranges")
	}
}

// smallTrees are all trees of so many nodes of these leaves.
func smallTrees(nodes int, leaves []api.Node) []api.Node {
	if nodes == 1 {
		return leaves
	}
	var out []api.Node
	for _, kid := range smallTrees(nodes-1, leaves) {
		for kind := api.Cat; kind <= api.Maybe; kind++ {
			out = append(out, node(kind, kid))
		}
	}
	for first := 1; first < nodes-1; first++ {
		for _, left := range smallTrees(first, leaves) {
			for _, right := range smallTrees(nodes-1-first, leaves) {
				out = append(out, node(api.Cat, left, right), node(api.Alt, left, right), node(api.Star, left, right))
			}
		}
	}
	return out
}

func TestAllSmallTrees(t *testing.T) { // P5.1, P5.2
	leaves := []api.Node{one('a'), set(span('a', 'b')), node(api.Cat), node(api.Alt)}
	texts := words("ab", 3)
	for nodes := 1; nodes <= 4; nodes++ {
		for _, n := range smallTrees(nodes, leaves) {
			p := machine(t, n)
			for _, text := range texts {
				check(t, n, p, text)
			}
		}
	}
}

func randomTree(r *rand.Rand, deep int) api.Node {
	kind := 1 + r.Intn(6)
	if deep == 0 {
		kind = 1 + r.Intn(3)*r.Intn(2)*r.Intn(2)
	}
	n := api.Node{Kind: kind}
	switch kind {
	case api.Set:
		for range r.Intn(3) {
			n.Ranges = append(n.Ranges, span("abc"[r.Intn(3)], "abc"[r.Intn(3)]))
		}
		if r.Intn(3) > 0 {
			n.Ranges = append(n.Ranges, span('a', "ab"[r.Intn(2)]))
		}
		return n
	case api.Cat, api.Alt:
		for range r.Intn(4) * min(deep, 1) {
			n.Kids = append(n.Kids, randomTree(r, deep-1))
		}
		return n
	}
	for range 1 + r.Intn(2)*r.Intn(2) {
		n.Kids = append(n.Kids, randomTree(r, deep-1))
	}
	return n
}

func TestRandomTrees(t *testing.T) { // P5.1, P5.2
	r := rand.New(rand.NewSource(1))
	for range 4000 {
		n := randomTree(r, r.Intn(6))
		p, code := Compile(n)
		if code != api.OK {
			t.Fatalf("%v: %d", n, code)
		}
		for range 6 {
			text := make([]byte, r.Intn(9))
			for i := range text {
				text[i] = "abc"[r.Intn(3)]
			}
			check(t, n, p, string(text))
		}
	}
}

func TestRandomPatterns(t *testing.T) { // P5.1: against the library's leftmost and longest
	r := rand.New(rand.NewSource(2))
	tried := 0
	for range 20000 {
		var pattern strings.Builder
		for range r.Intn(14) {
			pattern.WriteByte("aaabbbc.|()*+?()"[r.Intn(16)])
		}
		n, code, _ := rex.Parse(pattern.String())
		if code != api.OK {
			continue
		}
		other, err := regexp.CompilePOSIX(pattern.String())
		if err != nil { // it has no sign behind a sign
			continue
		}
		tried++
		p := machine(t, n)
		for range 10 {
			text := make([]byte, r.Intn(20))
			for i := range text {
				text[i] = "aabbcd"[r.Intn(6)]
			}
			want := other.FindStringIndex(string(text))
			from, to, ok := p.Find(string(text))
			if ok != (want != nil) || ok && (from != want[0] || to != want[1]) {
				t.Fatalf("Find(%q) of %q = %d, %d, %v, not %v", text, pattern.String(), from, to, ok, want)
			}
		}
	}
	if tried < 1000 {
		t.Errorf("%d patterns", tried)
	}
}

// chain is a tree of so many nodes, each one in the one ahead.
func chain(kind, deep int, last api.Node) api.Node {
	for range deep - 1 {
		last = node(kind, last)
	}
	return last
}

// wide is a node with so many kids.
func wide(kind, kids int, kid api.Node) api.Node {
	return node(kind, slices.Repeat([]api.Node{kid}, kids)...)
}

func within(n api.Node, kids ...api.Node) api.Node {
	n.Kids = append(slices.Clone(n.Kids), kids...)
	return n
}

func endless() api.Node {
	kids := make([]api.Node, 1)
	kids[0] = node(api.Star, kids...)
	kids[0].Kids = kids
	return kids[0]
}

func endlessAndWide() api.Node {
	kids := make([]api.Node, 3)
	for i := range kids {
		kids[i] = api.Node{Kind: api.Cat, Kids: kids}
	}
	return kids[0]
}

func TestCompile(t *testing.T) { // P5.1
	a, wrong := one('a'), api.Node{Kind: api.Star}
	for i, x := range []struct {
		n    api.Node
		code api.Errno
	}{
		{a, api.OK}, {node(api.Cat), api.OK}, {node(api.Alt), api.OK}, {node(api.Set), api.OK},
		{api.Node{}, api.ErrArg}, {node(7), api.ErrArg}, {node(-1), api.ErrArg}, {node(math.MaxInt), api.ErrArg}, {node(math.MinInt), api.ErrArg}, {node(256+1, a), api.ErrArg}, {node(7, a), api.ErrArg},
		{node(api.Star), api.ErrArg}, {node(api.Plus), api.ErrArg}, {node(api.Maybe), api.ErrArg},
		{api.Node{Kind: api.Plus, Ranges: []api.Range{span(0, 9)}, Kids: []api.Node{}}, api.ErrArg},
		{node(api.Star, a), api.OK}, {node(api.Star, a, a, a), api.OK}, {node(api.Plus, a, a), api.OK}, {node(api.Maybe, a, a), api.OK},
		{node(api.Star, wrong), api.ErrArg}, {node(api.Cat, a, wrong, a), api.ErrArg}, {node(api.Alt, a, a, node(0)), api.ErrArg}, {node(api.Alt, node(api.Cat, a, node(api.Plus, node(api.Maybe)))), api.ErrArg},
		{node(api.Star, a, wrong), api.ErrArg}, {node(api.Plus, a, node(0)), api.ErrArg}, {node(api.Maybe, a, a, node(api.Cat, node(7))), api.ErrArg}, {within(a, wrong), api.ErrArg}, {within(a, a), api.OK},
		{wide(api.Cat, 999, a), api.OK}, {wide(api.Cat, 1000, a), api.ErrSize}, {wide(api.Alt, 999, a), api.OK}, {wide(api.Alt, 1000, a), api.ErrSize},
		{wide(api.Star, 999, a), api.OK}, {wide(api.Star, 1000, a), api.ErrSize}, {within(a, wide(api.Cat, 998, a)), api.OK}, {within(a, wide(api.Cat, 999, a)), api.ErrSize},
		{wide(api.Cat, 37, wide(api.Alt, 26, a)), api.OK}, {node(api.Alt, wide(api.Cat, 37, wide(api.Alt, 26, a))), api.ErrSize},
		{wide(api.Alt, 1, wide(api.Cat, 998, a)), api.OK}, {wide(api.Alt, 2, wide(api.Cat, 499, a)), api.ErrSize},
		{chain(api.Cat, 300, a), api.OK}, {chain(api.Cat, 301, a), api.ErrSize}, {chain(api.Star, 300, a), api.OK}, {chain(api.Star, 301, a), api.ErrSize}, {chain(api.Set, 300, a), api.OK}, {chain(api.Set, 301, a), api.ErrSize},
		{node(api.Alt, a, chain(api.Plus, 299, a), a), api.OK}, {node(api.Alt, a, chain(api.Plus, 300, a), a), api.ErrSize}, {node(api.Star, a, chain(api.Plus, 299, a)), api.OK}, {node(api.Star, a, chain(api.Plus, 300, a)), api.ErrSize},
		{node(api.Cat, chain(api.Maybe, 299, a), chain(api.Maybe, 299, a), chain(api.Maybe, 299, a)), api.OK},
		{node(api.Cat, wrong, wide(api.Cat, 1000, a)), api.ErrSize}, {wide(7, 1000, a), api.ErrSize}, {wide(7, 999, a), api.ErrArg}, {wide(api.Cat, 1000, wrong), api.ErrSize}, {wide(api.Cat, 999, wrong), api.ErrArg},
		{chain(0, 301, wrong), api.ErrSize}, {chain(0, 300, wrong), api.ErrArg}, {chain(api.Cat, 300, wrong), api.ErrArg}, {chain(api.Cat, 301, wrong), api.ErrSize},
		{wide(api.Cat, 1<<20, a), api.ErrSize}, {chain(api.Star, 1<<20, a), api.ErrSize}, {endless(), api.ErrSize}, {endlessAndWide(), api.ErrSize},
	} {
		p, code := Compile(x.n)
		if code != x.code || (p != nil) != (code == api.OK) {
			t.Errorf("tree %d: %v, %d, not %d", i, p != nil, code, x.code)
		}
	}
}

func TestLargeTrees(t *testing.T) { // P5.1, P5.2: as large as may be
	a := one('a')
	as := func(n int) string { return strings.Repeat("a", n) }
	half := slices.Repeat([]api.Node{node(api.Maybe, a)}, 333)
	for i, x := range []struct {
		n        api.Node
		text     string
		from, to int
		ok       bool
	}{
		{wide(api.Cat, 999, a), "b" + as(999), 1, 1000, true}, {wide(api.Cat, 999, a), as(998) + "b" + as(998), 0, 0, false}, {wide(api.Cat, 999, a), as(5000), 0, 999, true},
		{wide(api.Alt, 999, a), as(5000), 0, 1, true}, {node(api.Star, wide(api.Alt, 998, a)), as(5000), 0, 5000, true},
		{chain(api.Star, 300, a), as(5000), 0, 5000, true}, {chain(api.Plus, 300, a), "b" + as(5000), 1, 5001, true}, {chain(api.Maybe, 300, a), as(3), 0, 1, true}, {chain(api.Cat, 300, a), "baa", 1, 2, true},
		{node(api.Cat, append(half, slices.Repeat([]api.Node{a}, 333)...)...), as(333), 0, 333, true}, {node(api.Cat, append(half, slices.Repeat([]api.Node{a}, 333)...)...), as(1000), 0, 666, true}, {node(api.Cat, append(half, slices.Repeat([]api.Node{a}, 333)...)...), as(332), 0, 0, false},
		{node(api.Cat, append(slices.Repeat([]api.Node{node(api.Star, a)}, 499), one('b'))...), as(5000), 0, 0, false}, {node(api.Cat, append(slices.Repeat([]api.Node{node(api.Star, a)}, 499), one('b'))...), as(5000) + "b", 0, 5001, true},
		{node(api.Plus, wide(api.Cat, 998, node(api.Cat))), as(2000), 0, 0, true},
		{node(api.Cat, append(append([]api.Node{wide(api.Alt, 300, a)}, slices.Repeat([]api.Node{a}, 600)...), one('b'))...), as(2000), 0, 0, false},
		{node(api.Cat, append(append([]api.Node{wide(api.Alt, 300, a)}, slices.Repeat([]api.Node{a}, 600)...), one('b'))...), as(2000) + "b", 1399, 2001, true},
	} {
		p := machine(t, x.n)
		if from, to, ok := p.Find(x.text); from != x.from || to != x.to || ok != x.ok {
			t.Errorf("tree %d: %d, %d, %v", i, from, to, ok)
		}
		checkSteps(t, p, x.text, x.to-x.from)
		want := x.to
		if !x.ok || x.from > 0 {
			want = -1
		}
		if got := p.Longest(x.text, 0); got != want {
			t.Errorf("tree %d: %d, not %d", i, got, want)
		}
		checkSteps(t, p, x.text, want)
	}
}

func TestLongTexts(t *testing.T) { // P5.2, DOC P1
	text := strings.Repeat("a", 1<<18)
	for pattern, want := range map[string]bool{"(a*)*b": false, "(a|aa)+b": false, strings.Repeat("a?", 50) + "b": false, "(a|b)*a(a|b)(a|b)(a|b)(a|b)(a|b)(a|b)b": false, "b": false, "(a+)+": true, ".*.*.*": true} {
		p := of(t, pattern)
		from, to, ok := p.Find(text)
		if ok != want || ok && (from != 0 || to != len(text)) {
			t.Errorf("Find of %q = %d, %d, %v", pattern, from, to, ok)
		}
		checkSteps(t, p, text, to)
	}
	p := machine(t, node(api.Star, wide(api.Alt, 998, one('a'))))
	if text := text[:1<<14]; p.Longest(text, 1) != len(text) {
		t.Error("a wide Alt")
	}
	checkSteps(t, p, text[:1<<14], 1<<14-1)
}

func TestSteps(t *testing.T) { // P5.1, P5.2
	p := of(t, "(a|b)*c")
	if p.Steps() != 0 {
		t.Errorf("%d steps ahead of the first call", p.Steps())
	}
	long := strings.Repeat("ab", 500) + "c"
	p.Find(long)
	first := p.Steps()
	checkSteps(t, p, long, len(long))
	if p.Steps() != first {
		t.Error("Steps changes what it answers")
	}
	if p.Find(long); p.Steps() != first {
		t.Errorf("%d steps, then %d", first, p.Steps())
	}
	if p.Longest(long, len(long)-1); p.Steps() < 1 || p.Steps() > api.MaxStates {
		t.Errorf("%d steps in the last byte", p.Steps())
	}
	for name, call := range map[string]func(){
		"Find of nothing":    func() { p.Find("") },
		"Longest of nothing": func() { p.Longest("", 0) },
		"Longest at the end": func() { p.Longest(long, len(long)) },
		"Longest behind it":  func() { p.Longest(long, len(long)+1) },
		"Longest ahead":      func() { p.Longest(long, -1) },
	} {
		p.Find(long)
		if call(); p.Steps() != 0 {
			t.Errorf("%s: %d steps", name, p.Steps())
		}
	}
	if p.Longest(long, 0); p.Steps() < int64(len(long)) {
		t.Errorf("%d steps", p.Steps())
	}
}

// written writes over all of a tree, the memory behind its lists' lengths too.
func written(n *api.Node) {
	for i := range n.Kids {
		written(&n.Kids[i])
	}
	for i := range n.Ranges[:cap(n.Ranges)] {
		n.Ranges[:cap(n.Ranges)][i] = span('x', 'z')
	}
	for i := range n.Kids[:cap(n.Kids)] {
		n.Kids[:cap(n.Kids)][i] = api.Node{Kind: 9}
	}
	n.Kind = 9
}

// roomy is a copy of a tree with something behind its lists' lengths.
func roomy(n api.Node) api.Node {
	out := api.Node{Kind: n.Kind, Ranges: append(make([]api.Range, 0, len(n.Ranges)+2), n.Ranges...)}
	out.Kids = make([]api.Node, 0, len(n.Kids)+2)
	for _, kid := range n.Kids {
		out.Kids = append(out.Kids, roomy(kid))
	}
	for i := range 2 {
		out.Ranges[:cap(out.Ranges)][len(n.Ranges)+i] = span(byte(i), 200)
		out.Kids[:cap(out.Kids)][len(n.Kids)+i] = api.Node{Kind: 40 + i}
	}
	return out
}

// behind is a tree with all that its lists have room for.
func behind(n api.Node) api.Node {
	n.Ranges, n.Kids = slices.Clone(n.Ranges[:cap(n.Ranges)]), slices.Clone(n.Kids[:cap(n.Kids)])
	for i := range n.Kids {
		n.Kids[i] = behind(n.Kids[i])
	}
	return n
}

func TestTreeIsNotKept(t *testing.T) { // P5.3
	r := rand.New(rand.NewSource(3))
	texts := words("ab", 4)
	for range 1000 {
		n := randomTree(r, r.Intn(5))
		given := roomy(n)
		before := behind(given)
		p, code := Compile(given)
		if code != api.OK {
			t.Fatalf("%v: %d", n, code)
		}
		if !reflect.DeepEqual(behind(given), before) {
			t.Fatalf("Compile changes %v", n)
		}
		written(&given)
		for _, text := range texts {
			check(t, n, p, text)
		}
	}
}

func TestMachinesAreApart(t *testing.T) { // P5.3
	n, _, _ := rex.Parse("(a|b)*b")
	m, _, _ := rex.Parse("a+")
	first, second, third := machine(t, n), machine(t, m), machine(t, n)
	for _, text := range words("ab", 5) {
		alone := machine(t, n)
		from, to, ok := alone.Find(text)
		gotFrom, gotTo, gotOk := first.Find(text)
		if gotFrom != from || gotTo != to || gotOk != ok {
			t.Fatalf("Find(%q) = %d, %d, %v", text, gotFrom, gotTo, gotOk)
		}
		check(t, m, second, text)
		machine(t, m).Find(text)
		third.Longest(text+"b", 0)
		if first.Steps() != alone.Steps() {
			t.Fatalf("%q: %d steps behind calls of others, alone %d", text, first.Steps(), alone.Steps())
		}
	}
}
