package talk

import (
	"math/rand"
	"testing"

	"colloquy/api"
	"colloquy/buf"
	"colloquy/line"
)

// someLooks are clauses that are found in short texts of a and b, or aren't.
func someLooks() []look {
	return []look{
		looks(exact("a"), "a"), looks(exact("bb"), "bb"), looks(exact("aba"), "aba"), looks(exact(""), ""), looks(exact("x"), "x"),
		looks(glob("a?"), "a."), looks(glob("b*b"), "b.*b"), looks(glob("[!a]a"), "[^a]a"), looks(glob("?"), "."),
		looks(regex("a+"), "a+"), looks(regex("b|ab"), "b|ab"), looks(regex("(ab)*bb"), "(ab)*bb"), looks(regex("b*"), "b*"), looks(regex("a(b|ba)b?"), "a(b|ba)b?"),
		looks(kind(api.Late), ""), looks(kind(api.Eof), ""), looks(kind(api.Death), ""), looks(kind(api.Full), ""),
	}
}

// someStreams are streams of up to two chunks.
func someStreams() []api.Stream {
	lists := [][]api.Chunk{nil}
	for _, wait := range []int{0, 2} {
		for _, text := range []string{"", "a", "bab"} {
			lists = append(lists, []api.Chunk{say(wait, text)})
			for _, second := range []string{"b", "abba"} {
				lists = append(lists, []api.Chunk{say(wait, text), say(1, second)})
			}
		}
	}
	var all []api.Stream
	for _, chunks := range lists {
		for _, end := range []int{api.Silent, api.AtEof, api.Dies} {
			all = append(all, api.Stream{Chunks: chunks, End: end, Wait: 1})
		}
	}
	return all
}

// TestEveryWait plays two waits of up to two clauses, with times around those of the streams.
func TestEveryWait(t *testing.T) { // P17.1
	some := someLooks()
	lists := [][]look{nil}
	for _, one := range some {
		lists = append(lists, []look{one})
		for _, two := range some {
			lists = append(lists, []look{one, two})
		}
	}
	times := [][2]int64{{-1, 9}, {0, 1}, {2, 2}, {3, 1}, {3, 9}, {9, 3}, {9, 9}}
	streams := someStreams()
	for _, ls := range lists {
		one := ask(t, 0, 0, ls...)
		for _, first := range times {
			for _, second := range times[2:6] {
				one.until, one.bound = first[0], first[1]
				two := one
				two.until, two.bound = second[0], second[1]
				for i, s := range streams {
					play(t, s, 1+i%4, []string{"", "b", "ab"}[i%3], []asked{one, two})
				}
			}
		}
	}
}

func anyText(r *rand.Rand, most int) string {
	b := make([]byte, r.Intn(most))
	for i := range b {
		b[i] = "aab"[r.Intn(3)]
		if r.Intn(2) == 0 {
			b[i] = "abx"[r.Intn(3)]
		}
	}
	return string(b)
}

func anyStream(r *rand.Rand) api.Stream {
	s := api.Stream{End: r.Intn(5) - 1, Wait: r.Intn(6) - 1}
	for range r.Intn(9) {
		s.Chunks = append(s.Chunks, say(r.Intn(6)-1, anyText(r, 6)))
	}
	return s
}

func anyLooks(r *rand.Rand, some []look) []look {
	var ls []look
	for range r.Intn(7) {
		ls = append(ls, some[r.Intn(len(some))])
	}
	return ls
}

func TestAnyWaits(t *testing.T) { // P17.1
	r := rand.New(rand.NewSource(1))
	some := someLooks()
	for range 20000 {
		var as []asked
		now := int64(0)
		for range 8 {
			now += r.Int63n(5)
			as = append(as, ask(t, now+r.Int63n(7)-2, now+r.Int63n(9)-1, anyLooks(r, some)...))
		}
		play(t, anyStream(r), 1+r.Intn(9), anyText(r, 9), as)
	}
}

// TestEarliestChunk knows of a wait only what is in the buffer behind each chunk, if nothing is found ahead of it.
func TestEarliestChunk(t *testing.T) { // P17.2
	r := rand.New(rand.NewSource(2))
	some := someLooks()
	matched := 0
	for range 50000 {
		s, most, there := anyStream(r), 1+r.Intn(9), anyText(r, 9)
		ls := anyLooks(r, some[:14])
		a := ask(t, 1000, 1000, ls...)
		l, b := line.Open(s), buffer(most, there)
		o := Wait(l, b, a.cs, a.until, a.bound)
		all, due := there, int64(0)
		clause := -1
		come := 0
		for ; ; come++ {
			if clause = firstIn(ls, all[max(len(all)-most, 0):]); clause >= 0 || come == len(s.Chunks) {
				break
			}
			all += string(s.Chunks[come].B)
			due += int64(max(s.Chunks[come].Wait, 0))
		}
		if clause < 0 {
			if o.Kind == Matched || l.Rest() != 0 {
				t.Fatalf("%v, %d, %q, %v: %v, rest %d", s, most, there, ls, o, l.Rest())
			}
			continue
		}
		matched++
		if o.Kind != Matched || o.Clause != clause || l.Rest() != len(s.Chunks)-come || l.Now() != due {
			t.Fatalf("%v, %d, %q, %v: %v behind %d chunks at %d, not clause %d behind %d at %d", s, most, there, ls, o, len(s.Chunks)-l.Rest(), l.Now(), clause, come, due)
		}
	}
	if matched < 10000 {
		t.Errorf("only %d waits have matched", matched)
	}
}

// firstIn is the first clause whose pattern is found in a text; -1: none is.
func firstIn(ls []look, text string) int {
	for i, l := range ls {
		if l.expr.MatchString(text) {
			return i
		}
	}
	return -1
}

// TestNothingIsLost knows of the waits only what they answer, and what has come.
func TestNothingIsLost(t *testing.T) { // P17.3
	r := rand.New(rand.NewSource(3))
	some := someLooks()
	for range 20000 {
		s, b := anyStream(r), buffer(1+r.Intn(9), anyText(r, 9))
		l := line.Open(s)
		for now := int64(0); now < 30; now += r.Int63n(9) {
			before, gone, come := string(b.Bytes()), b.Gone(), len(s.Chunks)-l.Rest()
			o := Wait(l, b, ask(t, 0, 0, anyLooks(r, some)...).cs, now, now+r.Int63n(5)-1)
			all := before
			for _, c := range s.Chunks[come : len(s.Chunks)-l.Rest()] {
				all += string(c.B)
			}
			checkSum(t, o, all, string(b.Bytes()))
			if b.Gone()-gone != int64(o.Gone) {
				t.Fatalf("%v: %d have gone", o, b.Gone()-gone)
			}
		}
	}
}

// checkSum holds an outcome and what is left against all that there was.
func checkSum(t *testing.T, o Outcome, all, left string) {
	t.Helper()
	if o.Gone < 0 || o.Gone > len(all)-len(left) || all[len(all)-len(left):] != left {
		t.Fatalf("%v leaves %q of %q", o, left, all)
	}
	taken := all[o.Gone : len(all)-len(left)]
	switch o.Kind {
	case Matched: // with what was ahead of the piece
		if len(taken) < len(o.Text) || taken[len(taken)-len(o.Text):] != string(o.Text) {
			t.Fatalf("%v has taken %q of %q", o, taken, all)
		}
	case Filled:
		if taken != string(o.Text) || left != "" {
			t.Fatalf("%v has taken %q of %q", o, taken, all)
		}
	default:
		if taken != "" || len(o.Text) != 0 {
			t.Fatalf("%v has taken %q of %q", o, taken, all)
		}
	}
}

// over writes over an answer, and over its spare room.
func over(b []byte) {
	b = b[:cap(b)]
	for i := range b {
		b[i] = '#'
	}
}

// TestClausesStay looks behind the list's length, too.
func TestClausesStay(t *testing.T) { // P17.4
	all := ready(t, exact("a"), kind(api.Full), regex("b+"), kind(api.Late), kind(api.Eof), glob("c"), kind(api.Death))
	ahead := append([]Clause(nil), all...)
	for _, end := range []int{api.Silent, api.AtEof, api.Dies} {
		l, b := session(end, 1, say(1, "xbbx"), say(1, "yyyyyy"), say(1, "aa")), buf.New(4)
		for until := range int64(9) {
			Wait(l, b, all[:5], until, 7)
		}
	}
	for i, c := range all {
		if c != ahead[i] {
			t.Errorf("clause %d is %v now", i, c)
		}
	}
	for i, want := range map[int]api.Clause{0: exact("a"), 2: regex("b+"), 5: glob("c")} {
		p := all[i].Pattern
		if from, to, ok := p.Find([]byte("cbba")); p.Kind() != want.Kind || p.Text() != want.Text || !ok || to-from != map[int]int{0: 1, 2: 2, 5: 1}[i] {
			t.Errorf("pattern %d is another now", i)
		}
	}
}

// TestCompileKeepsNothing writes over the list behind Compile.
func TestCompileKeepsNothing(t *testing.T) { // P17.4
	steps := []api.Step{{Kind: api.Pass}}
	cs := []api.Clause{exact("a"), {Kind: api.Late, Text: "t", Again: true, Steps: steps}, regex("b"), glob("behind"), kind(9)}
	out, _ := Compile(cs[:3])
	again, _ := Compile(cs[:3])
	if cs[1].Text != "t" || !cs[1].Again || &cs[1].Steps[0] != &steps[0] || steps[0].Kind != api.Pass || cs[3].Text != "behind" || cs[4].Kind != 9 || cs[0].Text != "a" || cs[2].Kind != api.Regex {
		t.Errorf("Compile has changed %v", cs)
	}
	clear(cs)
	clear(out[:cap(out)])
	if len(again) != 3 || again[0].Pattern.Text() != "a" || again[1] != (Clause{Kind: api.Late}) || again[2].Pattern.Kind() != api.Regex {
		t.Errorf("%v", again)
	}
	wait(t, session(0, 0, say(1, "xb")), buf.New(4), again, 9, 9, outcome(Matched, 2, "b", 0), "", 1)
}

// TestTextsAreNew writes over what Wait answers.
func TestTextsAreNew(t *testing.T) { // P17.4
	said := []byte("xabybczz----")
	l := line.Open(api.Stream{Chunks: []api.Chunk{{Wait: 1, B: said[:6]}, {Wait: 1, B: said[6:8]}, {Wait: 1, B: said}}})
	b := buf.New(12)
	cs := ready(t, exact("ab"), exact("bcz"), kind(api.Full))
	o := Wait(l, b, cs, 1, 9)
	over(o.Text)
	if string(b.Bytes()) != "ybc" {
		t.Errorf("%q is there now", b.Bytes())
	}
	two := Wait(l, b, cs, 2, 9)
	over(o.Text)
	if string(two.Text) != "bcz" || string(b.Bytes()) != "z" {
		t.Errorf("%q, and %q is there now", two.Text, b.Bytes())
	}
	over(two.Text)
	three := Wait(l, b, cs[1:], 3, 9)
	_ = append(three.Text[:1], "!!!!"...)
	if three.Kind != Matched || string(b.Bytes()) != "z----" || string(said) != "xabybczz----" {
		t.Errorf("%v, and %q is there now, %q was said", three, b.Bytes(), said)
	}
	b.Put([]byte("1234567"))
	l = session(0, 0, say(1, ""))
	four := Wait(l, b, cs, 1, 9)
	b.Put([]byte("other bytes"))
	if string(four.Text) != "z----1234567" {
		t.Errorf("%q was told of a full buffer", four.Text)
	}
	over(four.Text)
	if string(b.Bytes()) != "other bytes" {
		t.Errorf("%q is there now", b.Bytes())
	}
}

// TestTextsStay: what was told doesn't change by later waits.
func TestTextsStay(t *testing.T) { // P17.4
	r := rand.New(rand.NewSource(4))
	some := someLooks()
	for range 500 {
		l, b := line.Open(anyStream(r)), buf.New(1+r.Intn(9))
		var told []Outcome
		var want []string
		for range 20 {
			o := Wait(l, b, ask(t, 0, 0, anyLooks(r, some)...).cs, l.Now()+2, l.Now()+3)
			told, want = append(told, o), append(want, string(o.Text))
			b.Put([]byte(anyText(r, 4)))
		}
		for i, o := range told {
			if string(o.Text) != want[i] {
				t.Fatalf("%q was told, and is %q now", want[i], o.Text)
			}
		}
	}
}
