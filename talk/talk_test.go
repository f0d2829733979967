package talk

import (
	"bytes"
	"math"
	"slices"
	"strings"
	"testing"

	"colloquy/api"
	"colloquy/buf"
	"colloquy/line"
)

// say is a chunk.
func say(wait int, text string) api.Chunk {
	return api.Chunk{Wait: wait, B: []byte(text)}
}

func session(end, wait int, chunks ...api.Chunk) *line.Line {
	return line.Open(api.Stream{Chunks: chunks, End: end, Wait: wait})
}

// buffer is a buffer of at most so many bytes, with a text in it.
func buffer(most int, text string) *buf.Buffer {
	b := buf.New(most)
	b.Put([]byte(text))
	return b
}

func exact(text string) api.Clause {
	return api.Clause{Kind: api.Exact, Text: text}
}

func glob(text string) api.Clause {
	return api.Clause{Kind: api.Glob, Text: text}
}

func regex(text string) api.Clause {
	return api.Clause{Kind: api.Regex, Text: text}
}

func kind(k int) api.Clause {
	return api.Clause{Kind: k}
}

func ready(t *testing.T, cs ...api.Clause) []Clause {
	t.Helper()
	out, code := Compile(cs)
	if code != api.OK || len(out) != len(cs) {
		t.Fatalf("Compile(%v) = %d clauses, %d", cs, len(out), code)
	}
	return out
}

func outcome(kind, clause int, text string, gone int) Outcome {
	return Outcome{Kind: kind, Clause: clause, Text: []byte(text), Gone: gone}
}

func same(one, two Outcome) bool {
	return one.Kind == two.Kind && one.Clause == two.Clause && bytes.Equal(one.Text, two.Text) && one.Gone == two.Gone
}

// wait: a wait has this outcome, and then so much is in the buffer, at this time.
func wait(t *testing.T, l *line.Line, b *buf.Buffer, cs []Clause, until, bound int64, want Outcome, left string, now int64) {
	t.Helper()
	sent := string(l.Sent())
	o := Wait(l, b, cs, until, bound)
	if !same(o, want) || string(b.Bytes()) != left || l.Now() != now {
		t.Fatalf("Wait until %d, bound %d = %v with %.50q at %d, not %v with %.50q at %d", until, bound, o, b.Bytes(), l.Now(), want, left, now)
	}
	if string(l.Sent()) != sent {
		t.Fatalf("Wait has sent %q", l.Sent())
	}
}

func TestNumbers(t *testing.T) { // P17.1
	if Matched != 1 || Filled != 2 || Over != 3 || Dead != 4 || TimedOut != 5 || Spent != 6 {
		t.Errorf("%d, %d, %d, %d, %d, %d", Matched, Filled, Over, Dead, TimedOut, Spent)
	}
}

func TestExample(t *testing.T) { // P17.1
	l, b := session(api.Silent, 0, say(1, "a"), say(2, "bc")), buf.New(10)
	cs := ready(t, exact("b"), kind(api.Late))
	wait(t, l, b, cs, 2, 9, outcome(TimedOut, 1, "", 0), "a", 2)
	wait(t, l, b, cs, 9, 9, outcome(Matched, 0, "b", 0), "c", 3)
}

func TestCompile(t *testing.T) { // P17.1
	for _, cs := range [][]api.Clause{nil, {}, make([]api.Clause, 0, 3), []api.Clause{{}, {}}[:0]} {
		if out, code := Compile(cs); len(out) != 0 || code != api.OK {
			t.Errorf("Compile of nothing = %v, %d", out, code)
		}
	}
	cs := []api.Clause{exact("a*"), glob("a*"), regex("a*"), exact(""), exact(strings.Repeat("x", api.MaxPattern)), kind(api.Late), kind(api.Eof), kind(api.Death), kind(api.Full), exact("a*"), kind(api.Late)}
	out := ready(t, cs...)
	for i, c := range cs {
		if out[i].Kind != c.Kind {
			t.Errorf("clause %d is of Kind %d", i, out[i].Kind)
		}
		looks := c.Kind <= api.Regex
		if p := out[i].Pattern; looks != (p != nil) || looks && (p.Kind() != c.Kind || p.Text() != c.Text) {
			t.Errorf("clause %d has another pattern", i)
		}
	}
}

func TestCompileKinds(t *testing.T) { // P17.1
	for _, k := range []int{math.MinInt, -1, 0, 8, 9, 1 << 8, 1<<8 + 1, 1 << 32, 1<<32 + 1, 1<<32 + 4, math.MaxInt} {
		for _, text := range []string{"", "a", "("} {
			for _, cs := range [][]api.Clause{{{Kind: k, Text: text}}, {exact("a"), kind(api.Late), {Kind: k, Text: text}, exact("b")}} {
				if out, code := Compile(cs); code != api.ErrBound || out != nil {
					t.Errorf("Kind %d, %q = %v, %d", k, text, out, code)
				}
			}
		}
	}
}

// TestCompileText: a Kind that looks for nothing has a Text that is nothing to it; what is done then is nothing to any.
func TestCompileText(t *testing.T) { // P17.1
	for _, k := range []int{api.Late, api.Eof, api.Death, api.Full} {
		for _, text := range []string{"", "a", "(", "[", strings.Repeat("x", 100000)} {
			c := api.Clause{Kind: k, Text: text, Again: true, Steps: []api.Step{{Kind: 99, Clauses: []api.Clause{kind(99)}}}}
			if out := ready(t, c); out[0] != (Clause{Kind: k}) {
				t.Errorf("Kind %d, %.20q = %v", k, text, out)
			}
		}
	}
	for _, again := range []bool{false, true} {
		c := api.Clause{Kind: api.Exact, Text: "a", Again: again, Steps: []api.Step{{Kind: api.Expect, Clauses: []api.Clause{regex("(")}}}}
		if out := ready(t, c); out[0].Pattern.Text() != "a" {
			t.Errorf("%v", out)
		}
	}
}

func TestCompilePatterns(t *testing.T) { // P17.1
	long := strings.Repeat("x", api.MaxPattern+1)
	for _, c := range []api.Clause{exact(long), glob(long), regex(long), exact(strings.Repeat("x", 1<<20)), glob("["), glob("[a"), glob("[z-a]"), glob(`\`), regex("("), regex(")"), regex("*"), regex("a)"), regex("[b-a]"), regex(`\`)} {
		for _, cs := range [][]api.Clause{{c}, {c, exact("a")}, {exact("a"), kind(api.Late), c}, {exact("a"), c, c}} {
			if out, code := Compile(cs); code != api.ErrPattern || out != nil {
				t.Errorf("Kind %d, %.20q = %v, %d", c.Kind, c.Text, out, code)
			}
		}
	}
	ready(t, exact("("), exact("["), exact(`\`), exact(")*"), glob("("), glob(")*"))
}

func TestFirstFault(t *testing.T) { // P17.1
	none, wrong := kind(8), regex("(")
	for i, x := range []struct {
		cs   []api.Clause
		code api.Errno
	}{
		{[]api.Clause{none, wrong}, api.ErrBound}, {[]api.Clause{wrong, none}, api.ErrPattern},
		{[]api.Clause{exact("a"), none, kind(api.Late), wrong, wrong}, api.ErrBound}, {[]api.Clause{kind(api.Late), wrong, exact("a"), none, none}, api.ErrPattern},
		{[]api.Clause{{Kind: 0, Text: "("}, wrong}, api.ErrBound}, {[]api.Clause{glob("["), {Kind: -1, Text: "("}}, api.ErrPattern},
	} {
		if out, code := Compile(x.cs); code != x.code || out != nil {
			t.Errorf("%d: %v, %d", i, out, code)
		}
	}
}

func TestCompileMany(t *testing.T) { // DOC P1: more clauses than an Expect may have
	cs := slices.Repeat([]api.Clause{exact("ab"), kind(api.Late)}, 20000)
	out := ready(t, cs...)
	l, b := session(api.Silent, 0, say(1, "ab")), buf.New(9)
	wait(t, l, b, out[1:], 1, 9, outcome(Matched, 1, "ab", 0), "", 1)
	wait(t, l, b, out, 3, 9, outcome(TimedOut, 1, "", 0), "", 3)
	if _, code := Compile(append(cs, kind(0))); code != api.ErrBound {
		t.Errorf("Compile of many = %d", code)
	}
}

func TestThereAlready(t *testing.T) { // P17.1, P17.2: the session isn't asked, whatever the times
	for _, until := range []int64{math.MinInt64, -1, 0, 5, math.MaxInt64} {
		for _, bound := range []int64{math.MinInt64, -1, 0, 5, math.MaxInt64} {
			l, b := session(api.AtEof, 0, say(0, "abc")), buffer(9, "xxaby")
			wait(t, l, b, ready(t, kind(api.Full), exact("ab"), kind(api.Eof)), until, bound, outcome(Matched, 1, "ab", 0), "y", 0)
			if l.Rest() != 1 {
				t.Errorf("until %d, bound %d: the session was asked", until, bound)
			}
		}
	}
	b := buffer(4, "full")
	wait(t, session(api.Dies, 0), b, ready(t, kind(api.Death), kind(api.Full), exact("u")), 9, 9, outcome(Matched, 2, "u", 0), "ll", 0)
}

func TestOneChunk(t *testing.T) { // P17.1, P17.2
	for _, c := range []api.Clause{exact("bc"), glob("b?"), regex("b(c|d)"), regex("bc?")} {
		l, b := session(api.Silent, 0, say(3, "abcd"), say(0, "bc")), buffer(9, "x")
		cs := ready(t, kind(api.Late), c)
		wait(t, l, b, cs, 9, 9, outcome(Matched, 1, "bc", 0), "d", 3)
		wait(t, l, b, cs, 9, 9, outcome(Matched, 1, "bc", 0), "", 3)
		wait(t, l, b, cs, 9, 9, outcome(TimedOut, 0, "", 0), "", 9)
	}
}

func TestCutChunks(t *testing.T) { // P17.2: a pattern that comes cut
	const text = "hello"
	for cut := range len(text) + 1 {
		l, b := session(api.Silent, 0, say(1, ".."+text[:cut]), say(1, text[cut:]+"!"), say(1, text)), buf.New(20)
		now := int64(2)
		left := "!"
		if cut == len(text) {
			now, left = 1, ""
		}
		wait(t, l, b, ready(t, exact(text)), 9, 9, outcome(Matched, 0, text, 0), left, now)
	}
	l, b := session(api.Silent, 0, say(1, "h"), say(1, ""), say(1, "el"), say(1, "lo")), buffer(20, "oh")
	cs := ready(t, exact(text), kind(api.Late))
	for now := int64(0); now < 4; now++ { // in waits of their own
		left := []string{"oh", "ohh", "ohh", "ohhel"}[now]
		wait(t, l, b, cs, now, 9, outcome(TimedOut, 1, "", 0), left, now)
	}
	wait(t, l, b, cs, 4, 9, outcome(Matched, 0, text, 0), "", 4)
}

func TestSeveralMatch(t *testing.T) { // P17.2: first in the clauses' order, wherever the pieces begin
	for _, x := range []struct {
		cs     []api.Clause
		clause int
		text   string
		left   string
	}{
		{[]api.Clause{exact("d"), exact("a")}, 0, "d", "e"}, {[]api.Clause{exact("a"), exact("d")}, 0, "a", "bcde"},
		{[]api.Clause{exact("x"), exact("c"), exact("a")}, 1, "c", "de"}, {[]api.Clause{exact("b"), exact("b"), exact("abc")}, 0, "b", "cde"},
		{[]api.Clause{kind(api.Full), kind(api.Late), regex("[b-d]+"), glob("?")}, 2, "bcd", "e"}, {[]api.Clause{glob("a*"), exact("a")}, 0, "abcde", ""},
		{[]api.Clause{exact("f"), regex("bd|cd"), regex("bcd")}, 1, "cd", "e"}, {[]api.Clause{kind(api.Eof), exact("e"), kind(api.Death), exact("e")}, 1, "e", ""},
	} {
		cs := ready(t, x.cs...)
		wait(t, session(0, 0), buffer(5, "abcde"), cs, 9, 9, outcome(Matched, x.clause, x.text, 0), x.left, 0)
		wait(t, session(0, 0, say(1, "abcde")), buf.New(5), cs, 9, 9, outcome(Matched, x.clause, x.text, 0), x.left, 1)
		wait(t, session(0, 0, say(1, "wxyzabcde")), buf.New(5), cs, 9, 9, outcome(Matched, x.clause, x.text, 4), x.left, 1)
	}
}

func TestFirstAndLongest(t *testing.T) { // P17.1: the piece is layer 6's, and what is ahead of it is lost, too
	for _, x := range []struct {
		c                 api.Clause
		there, text, left string
	}{
		{exact("ab"), "xxabab", "ab", "ab"}, {exact("x"), "xxab", "x", "xab"}, {exact("b"), "xxab", "b", ""},
		{regex("a+"), "xaabaaa", "aa", "baaa"}, {regex("b|ab"), "xabb", "ab", "b"}, {regex("a*(b|bc)"), "xabc", "abc", ""},
		{glob("a*"), "xabc", "abc", ""}, {glob("?"), "xabc", "x", "abc"}, {exact("a*"), "aaa*", "a*", ""}, {exact("\xff\x00"), "\x00\xff\x00\xff", "\xff\x00", "\xff"},
	} {
		cs := ready(t, kind(api.Eof), x.c)
		wait(t, session(api.AtEof, 0), buffer(9, x.there), cs, 9, 9, outcome(Matched, 1, x.text, 0), x.left, 0)
		wait(t, session(api.AtEof, 0, say(2, x.there)), buf.New(9), cs, 9, 9, outcome(Matched, 1, x.text, 0), x.left, 2)
	}
}

func TestEmptyPiece(t *testing.T) { // P17.1: it is found at once, in no bytes too, and nothing is lost
	for _, c := range []api.Clause{exact(""), glob(""), regex(""), regex("b*"), regex("(b|c)?")} {
		for _, there := range []string{"", "a", "ab", "full"} {
			for _, l := range []*line.Line{session(0, 0), session(api.AtEof, 0), session(api.Dies, 0), session(0, 0, say(0, "b"))} {
				b, rest := buffer(4, there), l.Rest()
				cs := ready(t, exact("x"), kind(api.Full), c, kind(api.Eof))
				for range 3 {
					wait(t, l, b, cs, 9, 9, outcome(Matched, 2, "", 0), there, 0)
				}
				if l.Rest() != rest {
					t.Errorf("%v: the session was asked", c)
				}
			}
		}
	}
	l, b := session(0, 0, say(1, "a")), buffer(4, "b")
	wait(t, l, b, ready(t, regex("b*")), 9, 9, outcome(Matched, 0, "b", 0), "", 0)
	wait(t, l, b, ready(t, glob("*")), 9, 9, outcome(Matched, 0, "", 0), "", 0)
}

func TestNoClause(t *testing.T) { // P17.1
	for _, cs := range [][]Clause{nil, {}, []Clause{{Kind: api.Late}}[:0]} {
		b := buffer(4, "x")
		wait(t, session(0, 0, say(1, "ab"), say(1, "cde")), b, cs, 5, 9, outcome(TimedOut, -1, "", 2), "bcde", 5)
		wait(t, session(0, 0, say(1, "f")), b, cs, 9, 5, outcome(Spent, -1, "", 1), "cdef", 5)
		wait(t, session(api.AtEof, 3), b, cs, 9, 9, outcome(Over, -1, "", 0), "cdef", 3)
		wait(t, session(api.Dies, 3), b, cs, 9, 9, outcome(Dead, -1, "", 0), "cdef", 3)
	}
}

// TestClausesOfTheirOwn are clauses that Compile doesn't make: they look for nothing and wait for nothing.
func TestClausesOfTheirOwn(t *testing.T) { // DOC P1
	made := ready(t, exact("a"))[0]
	for _, k := range []int{math.MinInt, -1, 0, api.Exact, api.Glob, api.Regex, 8, 1 << 32, math.MaxInt} {
		cs := []Clause{{Kind: k}, made}
		wait(t, session(0, 0, say(1, "ba")), buf.New(4), cs, 9, 9, outcome(Matched, 1, "a", 0), "", 1)
		wait(t, session(0, 0), buffer(1, "x"), cs, 9, 9, outcome(TimedOut, -1, "", 0), "x", 9)
		wait(t, session(api.AtEof, 0, say(1, "xyzw")), buf.New(4), cs, 9, 9, outcome(Over, -1, "", 0), "xyzw", 1)
		wait(t, session(api.Dies, 0), buf.New(4), cs, 9, 9, outcome(Dead, -1, "", 0), "", 0)
	}
	for _, k := range []int{-1, 0, api.Late, api.Eof, api.Death, api.Full, 8} { // a Kind that looks for none
		cs := []Clause{{Kind: k, Pattern: made.Pattern}}
		wait(t, session(0, 0), buffer(2, "a"), cs, 4, 3, outcome(Spent, -1, "", 0), "a", 3)
	}
}

func TestTimes(t *testing.T) { // P17.1: at 6 the session is asked for a chunk that comes at 10
	const low, high = math.MinInt64, math.MaxInt64
	for _, x := range []struct {
		until, bound int64
		kind         int
		now          int64
	}{
		{8, 9, TimedOut, 8}, {8, 8, TimedOut, 8}, {9, 8, Spent, 8}, {9, 9, TimedOut, 9}, {high, 9, Spent, 9}, {9, high, TimedOut, 9},
		{10, 10, Matched, 10}, {11, 10, Matched, 10}, {10, 11, Matched, 10}, {high, 10, Matched, 10}, {10, high, Matched, 10}, {high, high, Matched, 10}, // just at the limit, and ahead of it
		{10, 9, Spent, 9}, {9, 10, TimedOut, 9}, {high, 7, Spent, 7},
		{6, 6, TimedOut, 6}, {6, 9, TimedOut, 6}, {9, 6, Spent, 6}, // at the session's time
		{5, 9, TimedOut, 6}, {9, 5, Spent, 6}, {5, 5, TimedOut, 6}, {4, 5, TimedOut, 6}, {5, 4, Spent, 6}, // less than it
		{low, high, TimedOut, 6}, {high, low, Spent, 6}, {low, low, TimedOut, 6}, {low, low + 1, TimedOut, 6}, {low + 1, low, Spent, 6}, {0, -1, Spent, 6}, {-1, 0, TimedOut, 6},
	} {
		l, b := session(0, 0, say(10, "a")), buffer(3, "b")
		if l.Next(6); l.Now() != 6 {
			t.Fatal("the session isn't at 6")
		}
		want, left := outcome(x.kind, -1, "", 0), "b"
		switch x.kind {
		case Matched:
			want, left = outcome(Matched, 0, "a", 0), ""
		case TimedOut:
			want.Clause = 1
		}
		wait(t, l, b, ready(t, exact("a"), kind(api.Late)), x.until, x.bound, want, left, x.now)
	}
}

func TestTimesOfSilence(t *testing.T) { // P17.1
	for _, x := range []struct {
		until, bound int64
		kind         int
		now          int64
	}{{math.MaxInt64, math.MaxInt64, TimedOut, math.MaxInt64}, {math.MaxInt64, math.MaxInt64 - 1, Spent, math.MaxInt64 - 1}, {1 << 40, 1 << 41, TimedOut, 1 << 40}, {1 << 32, 1, Spent, 1}, {0, 0, TimedOut, 0}, {math.MinInt64, 0, TimedOut, 0}} {
		wait(t, session(0, 0), buf.New(1), nil, x.until, x.bound, outcome(x.kind, -1, "", 0), "", x.now)
	}
}

// TestAtTheTime: what comes at the session's time comes, however low the limit is.
func TestAtTheTime(t *testing.T) { // P17.1
	for _, until := range []int64{math.MinInt64, 0, 3, 9} {
		for _, bound := range []int64{math.MinInt64, 0, 3, 9} {
			l := session(api.AtEof, 0, say(3, "a"), say(0, "b"), say(0, "c"))
			l.Next(3)
			b := buf.New(9)
			cs := ready(t, exact("c"), kind(api.Eof))
			wait(t, l, b, cs, until, bound, outcome(Matched, 0, "c", 0), "", 3)
			wait(t, l, b, cs, until, bound, outcome(Over, 1, "", 0), "", 3)
		}
	}
}

func TestLate(t *testing.T) { // P17.1: the first clause Late, of TimedOut alone
	for _, x := range []struct {
		cs     []api.Clause
		clause int
	}{{[]api.Clause{kind(api.Late)}, 0}, {[]api.Clause{exact("x"), kind(api.Eof), kind(api.Late), kind(api.Late)}, 2}, {[]api.Clause{exact("x"), kind(api.Eof), kind(api.Death), kind(api.Full)}, -1}} {
		l, b := session(api.AtEof, 9, say(1, "ab")), buf.New(3)
		cs := ready(t, x.cs...)
		for now := int64(2); now < 5; now++ {
			wait(t, l, b, cs, now, 9, outcome(TimedOut, x.clause, "", 0), "ab", now)
			wait(t, l, b, cs, now+9, now, outcome(Spent, -1, "", 0), "ab", now)
		}
	}
}

func TestEnds(t *testing.T) { // P17.1: an end of file and a death, just at the limit, behind it, and again and again
	for end, x := range map[int]struct{ kind, clause, other int }{api.AtEof: {Over, api.Eof, api.Death}, api.Dies: {Dead, api.Death, api.Eof}} {
		for _, y := range []struct {
			cs     []api.Clause
			clause int
		}{
			{[]api.Clause{kind(x.clause)}, 0}, {[]api.Clause{exact("x"), kind(api.Late), kind(x.other), kind(x.clause)}, 3},
			{[]api.Clause{kind(x.other), kind(x.clause), kind(x.clause)}, 1}, {[]api.Clause{exact("x"), kind(x.clause), kind(api.Full), kind(x.clause)}, 1},
			{[]api.Clause{kind(x.other)}, -1}, {[]api.Clause{kind(api.Full), exact("x"), kind(x.other), kind(api.Late)}, -1},
		} {
			l, b := session(end, 4, say(1, "ab")), buf.New(3)
			cs := ready(t, y.cs...)
			late := slices.IndexFunc(cs, func(c Clause) bool { return c.Kind == api.Late })
			wait(t, l, b, cs, 4, 9, outcome(TimedOut, late, "", 0), "ab", 4)
			wait(t, l, b, cs, 9, 4, outcome(Spent, -1, "", 0), "ab", 4)
			for _, until := range []int64{5, 5, 0, 9, math.MinInt64, math.MaxInt64} {
				wait(t, l, b, cs, until, 5, outcome(x.kind, y.clause, "", 0), "ab", 5)
				wait(t, l, b, cs, 5, until, outcome(x.kind, y.clause, "", 0), "ab", 5)
			}
			b.Put([]byte("x"))
			if clause := slices.IndexFunc(y.cs, func(c api.Clause) bool { return c.Kind == api.Exact }); clause >= 0 { // what is there is found all the same
				wait(t, l, b, cs, 9, 9, outcome(Matched, clause, "x", 0), "", 5)
			} else {
				wait(t, l, b, cs, 9, 9, outcome(x.kind, y.clause, "", 0), "abx", 5)
			}
		}
	}
}

func TestFull(t *testing.T) { // P17.1
	full := kind(api.Full)
	for _, x := range []struct {
		cs          []api.Clause
		there, come string
		want        Outcome
		left        string
	}{
		{[]api.Clause{full}, "", "abcd", outcome(Filled, 0, "abcd", 0), ""},
		{[]api.Clause{full}, "a", "bcd", outcome(Filled, 0, "abcd", 0), ""},
		{[]api.Clause{full}, "a", "bc", outcome(TimedOut, -1, "", 0), "abc"},
		{[]api.Clause{full}, "abc", "defg", outcome(Filled, 0, "defg", 3), ""},
		{[]api.Clause{full}, "abc", "defghi", outcome(Filled, 0, "fghi", 5), ""},
		{[]api.Clause{full}, "abcd", "", outcome(Filled, 0, "abcd", 0), ""}, // no bytes come
		{[]api.Clause{exact("x"), kind(api.Late), full, full}, "ab", "cde", outcome(Filled, 2, "bcde", 1), ""},
		{nil, "a", "bcde", outcome(TimedOut, -1, "", 1), "bcde"}, // none is Full
		{[]api.Clause{exact("x"), kind(api.Late)}, "a", "bcd", outcome(TimedOut, 1, "", 0), "abcd"},
		{[]api.Clause{full, exact("c")}, "a", "bcd", outcome(Matched, 1, "c", 0), "d"}, // a pattern is found in it
		{[]api.Clause{full, exact("c"), exact("d")}, "ab", "cdefg", outcome(Matched, 2, "d", 3), "efg"},
		{[]api.Clause{full, exact("a")}, "", "abcde", outcome(Filled, 0, "bcde", 1), ""}, // it has gone
		{[]api.Clause{exact("de"), full}, "", "abcdef", outcome(Matched, 0, "de", 2), "f"},
		{[]api.Clause{exact("abcde"), full}, "", "abcde", outcome(Filled, 1, "bcde", 1), ""}, // longer than the buffer
		{[]api.Clause{exact("abcde")}, "abcd", "e", outcome(TimedOut, -1, "", 1), "bcde"},
	} {
		b := buffer(4, x.there)
		now := int64(7)
		if x.want.Kind != TimedOut {
			now = 2
		}
		wait(t, session(0, 0, say(2, x.come)), b, ready(t, x.cs...), 7, 9, x.want, x.left, now)
	}
}

func TestFullOfOne(t *testing.T) { // P17.1
	l, b := session(api.AtEof, 1, say(1, "a"), say(0, "bc"), say(1, ""), say(1, "d")), buf.New(0)
	cs := ready(t, kind(api.Full), exact("d"))
	wait(t, l, b, cs, 9, 9, outcome(Filled, 0, "a", 0), "", 1)
	wait(t, l, b, cs, 9, 9, outcome(Filled, 0, "c", 1), "", 1)
	wait(t, l, b, cs, 9, 9, outcome(Matched, 1, "d", 0), "", 3)
	wait(t, l, b, cs, 9, 9, outcome(Over, -1, "", 0), "", 4)
}

// TestFullAhead: a buffer that is full ahead of the wait doesn't end it, unless bytes come.
func TestFullAhead(t *testing.T) { // P17.1
	for _, left := range []string{"full", "f"} {
		b := buffer(len(left), left)
		cs := ready(t, exact("x"), kind(api.Full))
		wait(t, session(0, 0), b, cs, 5, 9, outcome(TimedOut, -1, "", 0), left, 5)
		wait(t, session(0, 0), b, cs, 9, 5, outcome(Spent, -1, "", 0), left, 5)
		wait(t, session(api.AtEof, 2), b, cs, 9, 9, outcome(Over, -1, "", 0), left, 2)
		wait(t, session(api.Dies, 2), b, cs, 9, 9, outcome(Dead, -1, "", 0), left, 2)
		wait(t, session(0, 0, say(3, "")), b, cs, 2, 9, outcome(TimedOut, -1, "", 0), left, 2)
		wait(t, session(0, 0, say(3, "")), b, cs, 3, 9, outcome(Filled, 1, left, 0), "", 3)
	}
}

func TestGone(t *testing.T) { // P17.1, P17.3: of the whole wait, of several chunks, whatever ends it
	chunks := []api.Chunk{say(1, "abc"), say(1, "defgh"), say(1, ""), say(1, "i"), say(1, "jk!")}
	cs := ready(t, exact("!"))
	b := buffer(4, "xyz")
	l := session(api.AtEof, 1, chunks...)
	wait(t, l, b, cs, 2, 9, outcome(TimedOut, -1, "", 7), "efgh", 2)
	wait(t, l, b, cs, 9, 4, outcome(Spent, -1, "", 1), "fghi", 4)
	wait(t, l, b, cs, 9, 9, outcome(Matched, 0, "!", 3), "", 5)
	wait(t, l, b, cs, 9, 9, outcome(Over, -1, "", 0), "", 6)
	wait(t, session(0, 0, chunks...), buffer(4, "xyz"), cs, 9, 9, outcome(Matched, 0, "!", 11), "", 5)
	for end, how := range map[int]int{api.AtEof: Over, api.Dies: Dead} {
		wait(t, session(end, 1, chunks...), buffer(4, "xyz"), nil, 9, 9, outcome(how, -1, "", 11), "ijk!", 6)
	}
	b = buffer(4, "xyzabc") // what has gone ahead of the wait isn't the wait's
	wait(t, session(0, 0, say(1, "d"), say(1, "ef!")), b, cs, 9, 9, outcome(Matched, 0, "!", 4), "", 2)
	if b.Gone() != 6 {
		t.Errorf("%d have gone", b.Gone())
	}
	wait(t, session(0, 0, say(1, "no"), say(1, "abcdef")), buf.New(4), ready(t, kind(api.Full)), 9, 9, outcome(Filled, 0, "cdef", 4), "", 2)
}

func TestLarge(t *testing.T) { // P17.1, P17.3
	long := strings.Repeat("0123456789", 1<<17)
	l, b := session(api.Dies, 1, say(1, long), say(1, "abc"), say(1, long), say(1, "def")), buf.New(1<<20)
	cs := ready(t, exact("9abc0"), regex("9def|x"), kind(api.Full))
	wait(t, l, b, cs, 9, 9, outcome(Filled, 2, long[len(long)-api.MaxBuffer:], len(long)-api.MaxBuffer), "", 1)
	wait(t, l, b, cs[:2], 9, 9, outcome(Matched, 1, "9def", len(long)+6-api.MaxBuffer), "", 4)
	wait(t, l, b, cs, 9, 9, outcome(Dead, -1, "", 0), "", 5)
}

func TestManyChunks(t *testing.T) { // P17.1: one wait goes round as often as chunks come
	const many = 20000
	var chunks []api.Chunk
	for range many {
		chunks = append(chunks, say(1, "ab"))
	}
	l, b := session(0, 0, append(chunks, say(1, "!"))...), buf.New(7)
	cs := ready(t, exact("aa"), exact("!"))
	wait(t, l, b, cs, math.MaxInt64, math.MaxInt64, outcome(Matched, 1, "!", 2*many+1-7), "", many+1)
}

func TestTwoSessions(t *testing.T) { // DOC P2: clauses may be waited for by several
	cs := ready(t, exact("b"), kind(api.Late))
	one, two := session(0, 0, say(1, "a"), say(1, "b")), session(0, 0, say(3, "b"))
	there, here := buf.New(5), buf.New(5)
	wait(t, one, there, cs, 1, 9, outcome(TimedOut, 1, "", 0), "a", 1)
	wait(t, two, here, cs, 2, 9, outcome(TimedOut, 1, "", 0), "", 2)
	wait(t, one, there, cs, 9, 9, outcome(Matched, 0, "b", 0), "", 2)
	wait(t, two, here, cs, 9, 9, outcome(Matched, 0, "b", 0), "", 3)
	wait(t, session(0, 0), there, cs, 4, 9, outcome(TimedOut, 1, "", 0), "", 4)
}
