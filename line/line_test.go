package line

import (
	"bytes"
	"math"
	"slices"
	"testing"

	"colloquy/api"
)

// say is a chunk.
func say(wait int, text string) api.Chunk {
	return api.Chunk{Wait: wait, B: []byte(text)}
}

func stream(end, wait int, chunks ...api.Chunk) api.Stream {
	return api.Stream{Chunks: chunks, End: end, Wait: wait}
}

// next: the next thing by a limit is this one, and the session's time then that one.
func next(t *testing.T, l *Line, limit int64, what int, text string, now int64) {
	t.Helper()
	got, b := l.Next(limit)
	if got != what || string(b) != text || l.Now() != now {
		t.Fatalf("Next(%d) = %d, %q at %d, not %d, %q at %d", limit, got, b, l.Now(), what, text, now)
	}
}

func rest(t *testing.T, l *Line, want int) {
	t.Helper()
	if got := l.Rest(); got != want {
		t.Fatalf("Rest() = %d, not %d", got, want)
	}
}

func sent(t *testing.T, l *Line, want string) {
	t.Helper()
	if got := l.Sent(); string(got) != want {
		t.Fatalf("Sent() = %.50q (%d bytes), not %.50q (%d bytes)", got, len(got), want, len(want))
	}
}

// ends are the numbers of ends, with what comes of them.
func ends() map[int]int {
	return map[int]int{
		api.Silent: Late, api.AtEof: Ended, api.Dies: Died,
		-1: Late, -2: Late, 3: Late, 4: Late, 257: Late, 1<<32 + 1: Late, math.MinInt: Late, math.MaxInt: Late,
	}
}

// counts are numbers of ticks, with what they count as.
func counts() map[int]int64 {
	return map[int]int64{
		math.MinInt: 0, math.MinInt32: 0, -1000000: 0, -1: 0, 0: 0, 1: 1, 2: 2, 999999: 999999,
		1000000: 1000000, 1000001: 1000000, 1 << 32: 1000000, 1<<32 + 1: 1000000, math.MaxInt: 1000000,
	}
}

func TestNumbers(t *testing.T) { // P10.1
	if Chunk != 1 || Ended != 2 || Died != 3 || Late != 4 {
		t.Errorf("%d, %d, %d, %d", Chunk, Ended, Died, Late)
	}
}

func TestExample(t *testing.T) { // P10.1
	l := Open(stream(api.AtEof, 0, say(2, "a"), say(3, "")))
	next(t, l, 1, Late, "", 1)
	next(t, l, 9, Chunk, "a", 2)
	next(t, l, 4, Late, "", 4)
	next(t, l, 9, Chunk, "", 5)
	next(t, l, 9, Ended, "", 5)
	next(t, l, 9, Ended, "", 5)
}

func TestBeginning(t *testing.T) { // P10.1
	for _, s := range []api.Stream{{}, stream(api.AtEof, 0), stream(api.Dies, 7, say(0, "a"), say(1, "b"))} {
		l := Open(s)
		for range 2 {
			if l.Now() != 0 {
				t.Errorf("Now() = %d at the beginning", l.Now())
			}
			rest(t, l, len(s.Chunks))
			sent(t, l, "")
		}
	}
}

func TestNoChunks(t *testing.T) { // P10.1: an end's ticks are behind the beginning
	for end, what := range ends() {
		for _, chunks := range [][]api.Chunk{nil, {}} {
			l := Open(stream(end, 3, chunks...))
			next(t, l, -1, Late, "", 0)
			next(t, l, 0, Late, "", 0)
			next(t, l, 2, Late, "", 2)
			rest(t, l, 0)
			if what == Late {
				next(t, l, 3, Late, "", 3)
				next(t, l, 1, Late, "", 3)
				next(t, l, 1<<40, Late, "", 1<<40)
				continue
			}
			next(t, l, 3, what, "", 3)
			next(t, l, 0, what, "", 3)
			next(t, l, 1<<40, what, "", 3)
			rest(t, l, 0)
		}
	}
}

func TestChunksOfNoBytes(t *testing.T) { // P10.1
	l := Open(stream(api.Silent, 0, api.Chunk{Wait: 1}, api.Chunk{Wait: 0, B: []byte{}}, say(2, "x"), api.Chunk{Wait: 1}))
	next(t, l, 0, Late, "", 0)
	rest(t, l, 4)
	next(t, l, 9, Chunk, "", 1)
	rest(t, l, 3)
	next(t, l, 9, Chunk, "", 1)
	rest(t, l, 2)
	next(t, l, 9, Chunk, "x", 3)
	next(t, l, 3, Late, "", 3)
	rest(t, l, 1)
	next(t, l, 4, Chunk, "", 4)
	rest(t, l, 0)
	next(t, l, 9, Late, "", 9)
}

func TestTicksOfChunks(t *testing.T) { // P10.1, P10.2
	for wait, ticks := range counts() {
		l := Open(stream(api.AtEof, 0, say(wait, "a"), say(wait, "b"), say(5, "c"), say(wait, "d")))
		at := int64(0)
		for i, text := range []string{"a", "b", "c", "d"} {
			due := at + ticks
			if text == "c" {
				due = at + 5
			}
			if due > at {
				next(t, l, due-1, Late, "", due-1)
				rest(t, l, 4-i)
			}
			next(t, l, due, Chunk, text, due)
			rest(t, l, 3-i)
			at = due
		}
		next(t, l, math.MaxInt64, Ended, "", at)
	}
}

func TestTicksOfEnds(t *testing.T) { // P10.1, P10.2: behind the last chunk, or behind the beginning
	for end, what := range ends() {
		for wait, ticks := range counts() {
			for _, chunks := range [][]api.Chunk{nil, {say(4, "a")}, {say(4, "a"), say(9, "b")}} {
				l := Open(stream(end, wait, chunks...))
				at := int64(0)
				for _, c := range chunks {
					at += int64(c.Wait)
					next(t, l, math.MaxInt64, Chunk, string(c.B), at)
				}
				if ticks > 0 {
					next(t, l, at+ticks-1, Late, "", at+ticks-1)
				}
				next(t, l, at+ticks, what, "", at+ticks)
				next(t, l, 0, what, "", at+ticks)
				if what == Late {
					next(t, l, at+ticks+1, Late, "", at+ticks+1)
				}
				rest(t, l, 0)
			}
		}
	}
}

// TestEndCountsFromChunk: that the session has waited in vain is nothing to the end's ticks, nor to a chunk's.
func TestEndCountsFromChunk(t *testing.T) { // P10.1, P10.2
	for _, end := range []int{api.AtEof, api.Dies} {
		l := Open(stream(end, 10, say(5, "a"), say(5, "b")))
		for limit := range int64(5) {
			next(t, l, limit, Late, "", limit)
		}
		next(t, l, 5, Chunk, "a", 5)
		for limit := int64(5); limit < 10; limit++ {
			next(t, l, limit, Late, "", limit)
		}
		next(t, l, 10, Chunk, "b", 10)
		for limit := int64(10); limit < 20; limit++ {
			next(t, l, limit, Late, "", limit)
		}
		next(t, l, 20, ends()[end], "", 20)
	}
}

func TestLimits(t *testing.T) { // P10.1, P10.2
	low := []int64{math.MinInt64, math.MinInt32, -1, 0, 1, 6, 7}
	for _, limit := range low { // behind the session's time, and at it: nothing comes
		l := Open(stream(api.AtEof, 5, say(3, "a"), say(7, "b")))
		next(t, l, 3, Chunk, "a", 3)
		next(t, l, 7, Late, "", 7)
		next(t, l, limit, Late, "", 7)
		next(t, l, limit, Late, "", 7)
		rest(t, l, 1)
		next(t, l, 10, Chunk, "b", 10)
		next(t, l, limit, Late, "", 10)
		next(t, l, 15, Ended, "", 15)
		next(t, l, limit, Ended, "", 15)
	}
	for _, limit := range low { // what comes at the session's time comes, however low the limit
		for end, what := range map[int]int{api.AtEof: Ended, api.Dies: Died} {
			l := Open(stream(end, 0, say(8, "a"), say(0, "b"), say(-9, "c")))
			next(t, l, 8, Chunk, "a", 8)
			next(t, l, limit, Chunk, "b", 8)
			next(t, l, limit, Chunk, "c", 8)
			next(t, l, limit, what, "", 8)
		}
		l := Open(stream(api.AtEof, 0, say(0, "a")))
		next(t, l, limit, Chunk, "a", 0)
		next(t, l, limit, Ended, "", 0)
	}
	for _, limit := range []int64{10, 11, 1000000, 1 << 31, 1 << 32, 1<<32 + 3, math.MaxInt64 - 1, math.MaxInt64} {
		l := Open(stream(api.Dies, 0, say(10, "a")))
		next(t, l, limit, Chunk, "a", 10)
		next(t, l, limit, Died, "", 10)
		l = Open(stream(api.Silent, 1000, say(10, "a")))
		next(t, l, limit, Chunk, "a", 10)
		for range 3 {
			next(t, l, limit, Late, "", limit)
		}
		next(t, l, math.MinInt64, Late, "", limit)
	}
}

func TestLateAgainAndAgain(t *testing.T) { // P10.1, P10.2
	l := Open(stream(api.Silent, 0, say(6, "a")))
	for _, x := range []struct{ limit, now int64 }{{0, 0}, {2, 2}, {2, 2}, {1, 2}, {3, 3}, {-7, 3}, {5, 5}, {5, 5}} {
		next(t, l, x.limit, Late, "", x.now)
		rest(t, l, 1)
	}
	next(t, l, 6, Chunk, "a", 6)
	rest(t, l, 0)
	for _, x := range []struct{ limit, now int64 }{{6, 6}, {0, 6}, {7, 7}, {1000000, 1000000}, {8, 1000000}, {math.MaxInt64, math.MaxInt64}} {
		next(t, l, x.limit, Late, "", x.now)
		rest(t, l, 0)
	}
}

func TestEndsAgainAndAgain(t *testing.T) { // P10.1, P10.2: at once, and the time stays
	for end, what := range map[int]int{api.AtEof: Ended, api.Dies: Died} {
		l := Open(stream(end, 4, say(1, "a")))
		next(t, l, 1, Chunk, "a", 1)
		next(t, l, 3, Late, "", 3)
		for _, limit := range []int64{9, 9, 0, 5, 4, 6, math.MinInt64, math.MaxInt64, 1} {
			next(t, l, limit, what, "", 5)
			rest(t, l, 0)
			l.Send([]byte("."))
		}
		sent(t, l, ".........")
	}
}

func TestSend(t *testing.T) { // P10.1
	l := Open(stream(api.AtEof, 1, say(1, "said"), say(1, "more")))
	l.Send(nil)
	l.Send([]byte{})
	sent(t, l, "")
	l.Send([]byte("a"))
	sent(t, l, "a")
	next(t, l, 0, Late, "", 0)
	sent(t, l, "a")
	l.Send([]byte("\x00\xff"))
	next(t, l, 1, Chunk, "said", 1)
	sent(t, l, "a\x00\xff")
	l.Send(nil)
	next(t, l, 1, Late, "", 1)
	l.Send([]byte("bc"))
	next(t, l, 9, Chunk, "more", 2)
	next(t, l, 9, Ended, "", 3)
	l.Send([]byte("d"))
	for range 2 {
		sent(t, l, "a\x00\xffbcd")
		rest(t, l, 0)
	}
	if l.Now() != 3 {
		t.Errorf("Now() = %d behind Send", l.Now())
	}
}

func TestSendMany(t *testing.T) { // P10.1
	l := Open(stream(api.Silent, 0, say(1, "x")))
	var all []byte
	for n := range 600 {
		b := bytes.Repeat([]byte{byte(n)}, n)
		l.Send(b)
		all = append(all, b...)
	}
	sent(t, l, string(all))
	million := bytes.Repeat([]byte("0123456789"), 100000)
	l.Send(million)
	sent(t, l, string(all)+string(million))
	next(t, l, 1, Chunk, "x", 1)
	sent(t, l, string(all)+string(million))
}

func TestManyChunks(t *testing.T) { // P10.1, P10.2: the ticks together are more than 2^32
	const many = 10000
	s := stream(api.AtEof, api.MaxTicks)
	for i := range many {
		s.Chunks = append(s.Chunks, api.Chunk{Wait: api.MaxTicks, B: []byte{byte(i), byte(i >> 8)}})
	}
	l := Open(s)
	for i := range many {
		rest(t, l, many-i)
		due := int64(i+1) * api.MaxTicks
		next(t, l, due-1, Late, "", due-1)
		next(t, l, math.MaxInt64, Chunk, string([]byte{byte(i), byte(i >> 8)}), due)
	}
	next(t, l, (many+1)*api.MaxTicks-1, Late, "", (many+1)*api.MaxTicks-1)
	next(t, l, math.MaxInt64, Ended, "", (many+1)*api.MaxTicks)
}

func TestLongChunk(t *testing.T) { // P10.1
	long := bytes.Repeat([]byte("long"), 1<<18)
	l := Open(stream(api.Silent, 0, say(1, string(long)), say(0, "a")))
	next(t, l, 1, Chunk, string(long), 1)
	next(t, l, 1, Chunk, "a", 1)
}

func TestSessionsOfOneStream(t *testing.T) { // P10.1, P2
	s := stream(api.Dies, 1, say(1, "a"), say(1, "b"))
	one, two := Open(s), Open(s)
	next(t, one, 9, Chunk, "a", 1)
	one.Send([]byte("x"))
	next(t, one, 9, Chunk, "b", 2)
	next(t, one, 9, Died, "", 3)
	next(t, two, 0, Late, "", 0)
	rest(t, two, 2)
	sent(t, two, "")
	next(t, two, 9, Chunk, "a", 1)
	rest(t, two, 1)
	sent(t, one, "x")
}

// TestStreamIsNotKept writes over a stream behind Open.
func TestStreamIsNotKept(t *testing.T) { // P10.3
	s := stream(api.AtEof, 2, say(1, "ab"), say(2, "cd"), say(3, ""))
	l := Open(s)
	for _, c := range s.Chunks {
		clear(c.B)
	}
	for i := range s.Chunks {
		s.Chunks[i] = say(100, "other")
	}
	s.End, s.Wait = api.Silent, 50
	next(t, l, 99, Chunk, "ab", 1)
	next(t, l, 2, Late, "", 2)
	next(t, l, 99, Chunk, "cd", 3)
	next(t, l, 99, Chunk, "", 6)
	next(t, l, 99, Ended, "", 8)
}

// TestStreamIsNotChanged looks behind the lists' lengths, too.
func TestStreamIsNotChanged(t *testing.T) { // P10.3
	text := []byte("abcdefgh")
	chunks := []api.Chunk{{Wait: -3, B: text[:2]}, {Wait: 1 << 40, B: text[1:4]}, {Wait: 7, B: text[8:]}, {Wait: 9, B: text}}
	ahead := slices.Clone(chunks)
	l := Open(api.Stream{Chunks: chunks[:3], End: 77, Wait: -1})
	rest(t, l, 3)
	l.Send(text[:4])
	l.Send(text[2:3])
	for _, x := range []struct {
		text string
		at   int64
	}{{"ab", 0}, {"bcd", 1000000}, {"", 1000007}} {
		what, b := l.Next(math.MaxInt64)
		if what != Chunk || string(b) != x.text || l.Now() != x.at {
			t.Errorf("%d, %q at %d, not %q at %d", what, b, l.Now(), x.text, x.at)
		}
		over(b)
		over(l.Sent())
	}
	if string(text) != "abcdefgh" {
		t.Errorf("the bytes are %q now", text)
	}
	for i, c := range chunks {
		if c.Wait != ahead[i].Wait || len(c.B) != len(ahead[i].B) || cap(c.B) != cap(ahead[i].B) {
			t.Errorf("chunk %d is %v now", i, c)
		}
	}
	sent(t, l, "abcdc")
}

// over writes over an answer, and over its spare room.
func over(b []byte) {
	b = b[:cap(b)]
	for i := range b {
		b[i] = '#'
	}
}

// TestAnswersAreNew writes over what Next and Sent answer.
func TestAnswersAreNew(t *testing.T) { // P10.3
	shared := []byte("shared bytes")
	l := Open(stream(api.AtEof, 0, api.Chunk{B: shared[:6]}, api.Chunk{B: shared[:0]}, api.Chunk{B: shared}, api.Chunk{B: shared[3:6]}))
	two := Open(stream(api.AtEof, 0, api.Chunk{B: shared}))
	l.Send(shared[:6])
	for _, text := range []string{"shared", "", "shared bytes", "red"} {
		what, b := l.Next(0)
		if what != Chunk || string(b) != text {
			t.Errorf("%d, %q, not %q", what, b, text)
		}
		over(b)
		sent(t, l, "shared")
		first, second := l.Sent(), l.Sent()
		over(first)
		if string(second) != "shared" {
			t.Errorf("two answers share memory: %q", second)
		}
		sent(t, l, "shared")
		_ = append(second[:3], "!!"...)
		sent(t, l, "shared")
	}
	_, b := l.Next(0)
	over(b)
	next(t, two, 0, Chunk, "shared bytes", 0)
	l.Send([]byte(" again"))
	sent(t, l, "shared again")
}

// TestAnswersStay: what was answered doesn't change by later calls.
func TestAnswersStay(t *testing.T) { // P10.3
	l := Open(stream(api.Silent, 0, say(0, "one"), say(0, "two"), say(0, "three")))
	var got [][]byte
	for range 3 {
		l.Send([]byte("s"))
		_, b := l.Next(0)
		got = append(got, b, l.Sent())
	}
	for i, want := range []string{"one", "s", "two", "ss", "three", "sss"} {
		if string(got[i]) != want {
			t.Errorf("answer %d is %q now, not %q", i, got[i], want)
		}
	}
}

// TestSentBytesAreNotKept writes over what Send was handed.
func TestSentBytesAreNotKept(t *testing.T) { // P10.3
	l := Open(api.Stream{})
	whole := []byte("abcdef")
	l.Send(whole[:3])
	clear(whole[:3])
	sent(t, l, "abc")
	l.Send(whole[3:5])
	if string(whole) != "\x00\x00\x00def" {
		t.Errorf("Send has changed what it was handed: %q", whole)
	}
	clear(whole)
	sent(t, l, "abcde")
	l.Send(l.Sent())
	sent(t, l, "abcdeabcde")
}
