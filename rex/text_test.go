package rex

import (
	"math/rand"
	"reflect"
	"runtime/debug"
	"strings"
	"testing"

	"colloquy/api"
)

func TestTextOfParsed(t *testing.T) { // P4.1
	for pattern, want := range map[string]string{
		"": "", "a": "a", "((a))": "((a))", "[0-9]+|\\.": "[0-9]+|\\.", `\d`: "[0-9]", "[.]": `\.`, `[^\n]`: ".", ".": ".", "[aa]": "a", "[b-da]": "[a-d]", "[^bc]": "[^b-c]", "[ab]": "[a-b]", "[ac]": "[ac]",
		"\n\t": `\n\t`, `[\n\t]`: `[\t-\n]`, `[\n]`: `\n`, `[\t]`: `\t`, `\]\^\-`: "]^-", `[\]\^\-\\]`: `[\-\\-\^]`, `[\]a]`: `[\]a]`, `[\^a]`: `[\^a]`, "[-a]": `[\-a]`, `[\\a]`: `[\\a]`, `[[a|()*+?.]`: `[(-+.?[a|]`, `[\n-a]`: `[\n-a]`, `[A-\]]`: `[A-\]]`,
		"[\x00-\xff]": "[\x00-\xff]", "[^\x00-\xff]": "[^\x00-\xff]", "[^a]": "[^a]", "[^ac]": "[^ac]", "[^\x00]": "[\x01-\xff]", "[^\xff]": "[\x00-\xfe]", "[^\x00a]": "[\x01-`b-\xff]", "[^\x00\xff]": "[\x01-\xfe]", "[\x00\xff]": "[^\x01-\xfe]", `[^\t]`: `[^\t]`, `[^\]]`: `[^\]]`,
		"a*+?": "a*+?", "(a)*": "(a)*", "(ab)+c": "(ab)+c", "(a|b)?": "(a|b)?", "(a|b)c|d": "(a|b)c|d", "a||b": "a||b", "|": "|", "(|)": "(|)", "()": "()", "()*": "()*", "((a|b))": "((a|b))",
	} {
		n, code, _ := Parse(pattern)
		if got := Text(n); code != api.OK || got != want {
			t.Errorf("Text(Parse(%q)) = %q, not %q", pattern, got, want)
		}
		check(t, want)
	}
}

func TestTextOfOtherTrees(t *testing.T) { // P4.1
	a, b, none := byteOf('a'), byteOf('b'), api.Node{Kind: 9}
	for _, x := range []struct {
		n    api.Node
		want string
	}{
		{api.Node{}, ""}, {none, ""}, {api.Node{Kind: -1, Ranges: []api.Range{span('a', 'a')}, Kids: []api.Node{a}}, ""}, {of(7, a, b), ""},
		{setOf(), "[^\x00-\xff]"}, {setOf(span(9, 8), span(255, 0)), "[^\x00-\xff]"}, {setOf(span('a', 'a'), span('z', 'b'), span('a', 'a')), "a"},
		{setOf(span('c', 'd'), span('a', 'b')), "[a-d]"}, {setOf(span('a', 'f'), span('b', 'c')), "[a-f]"}, {setOf(span(11, 255), span(0, 9), span(3, 200), span(0, 9)), "[\x00-\xff]"}, {setOf(span(11, 255), span(5, 9), span(0, 7)), "."}, {setOf(span('b', 255), span(0, '`')), "[^a]"},
		{api.Node{Kind: api.Set, Ranges: []api.Range{span('a', 'a')}, Kids: []api.Node{b}}, "a"}, {api.Node{Kind: api.Cat, Ranges: []api.Range{span('a', 'a')}, Kids: []api.Node{b}}, "b"},
		{cat(), ""}, {alt(), ""}, {alt(a), "a"}, {alt(a, b), "a|b"}, {alt(cat(a), alt(a, b), cat()), "a|(a|b)|"}, {alt(alt(alt())), "(())"}, {alt(none, none), "|"}, {cat(none, a), "a"}, {cat(alt(), cat(), alt(a)), "()()(a)"},
		{of(api.Star), ""}, {of(api.Plus), ""}, {of(api.Maybe), ""}, {of(api.Star, none), "*"}, {of(api.Plus, of(api.Star)), "+"}, {of(api.Maybe, a, b), "a?"}, {of(api.Star, cat(), a), "()*"}, {of(api.Plus, alt(a)), "(a)+"}, {of(api.Maybe, of(api.Plus, of(api.Star, a))), "a*+?"},
		{cat(of(api.Star), a, of(api.Plus)), "a"}, {alt(of(api.Star, alt()), of(api.Maybe, setOf())), "()*|[^\x00-\xff]?"},
	} {
		if got := Text(x.n); got != x.want || told(x.n) != x.want {
			t.Errorf("Text(%v) = %q, not %q (in calls within calls %q)", x.n, got, x.want, told(x.n))
		}
	}
}

func TestTextOfEachByte(t *testing.T) { // P4.1, P4.2
	for lo := range 256 {
		for _, n := range []api.Node{byteOf(byte(lo)), setOf(span(0, byte(lo)-1), span(byte(lo)+1, 255)), setOf(span(byte(lo), 255)), setOf(span(byte(lo), byte(lo)), span('a', 'b'))} {
			if Text(n) != told(n) {
				t.Errorf("Text(%v) = %q, not %q", n, Text(n), told(n))
			}
			check(t, Text(n))
		}
		for hi := lo; hi < 256; hi++ {
			n := cat(setOf(span(byte(lo), byte(hi))))
			if again, code, _ := Parse(Text(n)); Text(n) != told(n) || code != api.OK || !reflect.DeepEqual(again, n) {
				t.Errorf("%v has the text %q, whose tree is %v", n, Text(n), again)
			}
		}
	}
}

// randomTree is any tree, also one that Parse doesn't make.
func randomTree(r *rand.Rand, deep int) api.Node {
	n := api.Node{Kind: 1 + r.Intn(6)}
	if r.Intn(20) == 0 {
		n.Kind = r.Intn(20) - 8
	}
	if n.Kind == api.Set || r.Intn(10) == 0 {
		for range r.Intn(5) {
			lo := r.Intn(256)
			n.Ranges = append(n.Ranges, span(byte(lo), byte(max(0, min(255, lo+r.Intn(60)-10)))))
		}
	}
	if deep > 0 && (n.Kind != api.Set || r.Intn(10) == 0) {
		for range r.Intn(4) {
			n.Kids = append(n.Kids, randomTree(r, deep-1))
		}
	}
	return n
}

func copyOf(n api.Node) api.Node {
	out := api.Node{Kind: n.Kind, Ranges: append([]api.Range(nil), n.Ranges...)}
	for _, kid := range n.Kids {
		out.Kids = append(out.Kids, copyOf(kid))
	}
	return out
}

func TestTextOfRandomTrees(t *testing.T) { // P4.1, P4.3: the argument stays
	r := rand.New(rand.NewSource(7))
	for range 20000 {
		n := randomTree(r, r.Intn(6))
		before := copyOf(n)
		text := Text(n)
		if text != told(n) {
			t.Fatalf("Text(%v) = %q, not %q", n, text, told(n))
		}
		if !reflect.DeepEqual(n, before) {
			t.Fatalf("Text changes %v to %v", before, n)
		}
	}
}

func TestTextLeavesMemoryBehind(t *testing.T) { // P4.3
	ranges := []api.Range{span('b', 'b'), span('a', 'a'), span('x', 'y'), span(3, 2)}
	kids := []api.Node{setOf(ranges[:2]...), byteOf('c'), byteOf('d')}
	kids[0].Ranges = ranges[:2]
	for _, kind := range []int{api.Cat, api.Alt, api.Star, api.Plus, api.Maybe} {
		Text(api.Node{Kind: kind, Kids: kids[:1], Ranges: ranges[:1]})
	}
	if !reflect.DeepEqual(ranges, []api.Range{span('b', 'b'), span('a', 'a'), span('x', 'y'), span(3, 2)}) || !reflect.DeepEqual(kids[1:], []api.Node{byteOf('c'), byteOf('d')}) {
		t.Errorf("%v, %v", ranges, kids)
	}
}

func TestTextOfLargeTrees(t *testing.T) { // DOC P1: every call ends, and none panics
	const deep = 1 << 20
	defer debug.SetMaxStack(debug.SetMaxStack(1 << 20)) // calls within calls would come to their end here
	for kind, want := range map[int]string{
		api.Cat:   strings.Repeat("(", deep-1) + "a" + strings.Repeat(")", deep-1),
		api.Alt:   strings.Repeat("(", deep-1) + "a" + strings.Repeat(")", deep-1),
		api.Star:  "a" + strings.Repeat("*", deep),
		api.Plus:  "a" + strings.Repeat("+", deep),
		api.Maybe: "a" + strings.Repeat("?", deep),
	} {
		n := byteOf('a')
		for range deep {
			n = of(kind, n)
		}
		if Text(n) != want {
			t.Errorf("the text of %d nodes of kind %d within each other", deep, kind)
		}
	}
	wide := make([]api.Node, deep)
	for i := range wide {
		wide[i] = byteOf('a')
	}
	if Text(cat(wide...)) != strings.Repeat("a", deep) || Text(alt(wide...)) != strings.Repeat("a|", deep-1)+"a" || Text(of(api.Star, wide...)) != "a*" {
		t.Errorf("the text of %d nodes beside each other", deep)
	}
	if Text(setOf(make([]api.Range, deep)...)) != "\x00" {
		t.Errorf("the text of %d ranges", deep)
	}
}
