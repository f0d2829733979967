package line

import (
	"math/rand"
	"slices"
	"testing"

	"colloquy/api"
)

// plain is a session as the document tells it, whose time goes on tick by tick.
type plain struct {
	coming []thing
	now    int64
	sent   string
}

// thing is something that comes, and how many ticks it is off yet; what it is Late never comes.
type thing struct {
	what  int
	text  string
	ticks int64
}

func plainOf(s api.Stream) *plain {
	m := &plain{}
	for _, c := range s.Chunks {
		m.coming = append(m.coming, thing{Chunk, string(c.B), bounded(c.Wait)})
	}
	end := thing{Late, "", bounded(s.Wait)}
	if s.End == 1 {
		end.what = Ended
	} else if s.End == 2 {
		end.what = Died
	}
	m.coming = append(m.coming, end)
	return m
}

func bounded(wait int) int64 {
	if wait < 0 {
		return 0
	}
	if wait > 1000000 {
		return 1000000
	}
	return int64(wait)
}

func (m *plain) next(limit int64) (int, string) {
	for {
		first := &m.coming[0]
		if first.ticks == 0 && first.what == Chunk {
			text := first.text
			m.coming = m.coming[1:]
			return Chunk, text
		}
		if first.ticks == 0 && first.what != Late {
			return first.what, ""
		}
		if m.now >= limit {
			return Late, ""
		}
		m.now++
		if first.ticks > 0 {
			first.ticks--
		}
	}
}

// call is a call of Next, or of Send where there is a text.
type call struct {
	limit int64
	text  string
}

// play does calls on a session and on the document's one, and holds all they tell against each other.
func play(t *testing.T, s api.Stream, calls []call) {
	t.Helper()
	l, m := Open(s), plainOf(s)
	for i, c := range calls {
		if c.text != "" {
			l.Send([]byte(c.text))
			m.sent += c.text
		} else {
			what, b := l.Next(c.limit)
			wantWhat, wantText := m.next(c.limit)
			if what != wantWhat || string(b) != wantText {
				t.Fatalf("%v, %v: the last one = %d, %q, not %d, %q", s, calls[:i+1], what, b, wantWhat, wantText)
			}
		}
		if l.Now() != m.now || l.Rest() != len(m.coming)-1 || string(l.Sent()) != m.sent {
			t.Fatalf("%v, %v: at %d, rest %d, sent %q, not %d, %d, %q", s, calls[:i+1], l.Now(), l.Rest(), l.Sent(), m.now, len(m.coming)-1, m.sent)
		}
	}
}

// someStreams are streams of up to two chunks.
func someStreams() []api.Stream {
	lists := [][]api.Chunk{nil}
	for _, wait := range []int{-1, 0, 2} {
		lists = append(lists, []api.Chunk{say(wait, "a")})
		for _, second := range []int{-1, 0, 1} {
			lists = append(lists, []api.Chunk{say(wait, "a"), say(second, "")})
		}
	}
	var all []api.Stream
	for _, chunks := range lists {
		for _, end := range []int{api.Silent, api.AtEof, api.Dies, 3} {
			for _, wait := range []int{-1, 0, 1} {
				all = append(all, stream(end, wait, chunks...))
			}
		}
	}
	return all
}

func TestEveryOrder(t *testing.T) { // P10.1
	some := []call{{limit: -1}, {limit: 0}, {limit: 1}, {limit: 2}, {limit: 3}, {limit: 4}, {text: "x"}}
	const long = 5
	streams := someStreams()
	calls := make([]call, long)
	var fill func(at int)
	fill = func(at int) {
		if at == long {
			for _, s := range streams {
				play(t, s, calls)
			}
			return
		}
		for _, c := range some {
			calls[at] = c
			fill(at + 1)
		}
	}
	fill(0)
}

func anyStream(r *rand.Rand) api.Stream {
	s := stream(r.Intn(5)-1, r.Intn(12)-2)
	for range r.Intn(8) {
		b := make([]byte, r.Intn(4))
		for i := range b {
			b[i] = byte(r.Intn(256))
		}
		s.Chunks = append(s.Chunks, api.Chunk{Wait: r.Intn(12) - 2, B: b})
	}
	return s
}

func TestAnyCalls(t *testing.T) { // P10.1
	r := rand.New(rand.NewSource(1))
	for range 20000 {
		calls := make([]call, 40)
		now := int64(0)
		for i := range calls {
			now += r.Int63n(4)
			calls[i] = call{limit: now + r.Int63n(9) - 4}
			if r.Intn(5) == 0 {
				calls[i].text = []string{"a", "bc", "\x00"}[r.Intn(3)]
			}
		}
		play(t, anyStream(r), calls)
	}
}

// TestWhateverTheLimits knows of a session only when each of its chunks is due.
func TestWhateverTheLimits(t *testing.T) { // P10.2
	r := rand.New(rand.NewSource(2))
	for range 20000 {
		s := anyStream(r)
		for i := range s.Chunks {
			if r.Intn(4) == 0 {
				s.Chunks[i].Wait = []int{999999, 1000000, 1000001, 1 << 40, -1 << 40}[r.Intn(5)]
			}
		}
		var due []int64
		at := int64(0)
		for _, c := range s.Chunks {
			at += bounded(c.Wait)
			due = append(due, at)
		}
		due = append(due, at+bounded(s.Wait))
		l := Open(s)
		come := 0
		for range 60 {
			ahead := l.Now()
			limit := due[min(come, len(due)-1)] + r.Int63n(5) - 2
			if r.Intn(6) == 0 {
				limit = []int64{-1 << 63, 1<<62 - 1, 0, ahead}[r.Intn(4)]
			}
			what, b := l.Next(limit)
			checkStep(t, s, due, come, ahead, limit, l, what, b)
			if what == Chunk {
				come++
			}
		}
	}
}

// checkStep holds what came behind some chunks against when it is due.
func checkStep(t *testing.T, s api.Stream, due []int64, come int, ahead, limit int64, l *Line, what int, b []byte) {
	t.Helper()
	limit = max(limit, ahead)
	if l.Now() < ahead || l.Now() > limit {
		t.Fatalf("%v: the time went from %d to %d by %d", s, ahead, l.Now(), limit)
	}
	switch what {
	case Chunk:
		if come >= len(s.Chunks) || l.Now() != due[come] || !slices.Equal(b, s.Chunks[come].B) {
			t.Fatalf("%v: chunk %d is %q at %d", s, come, b, l.Now())
		}
		come++
	case Ended, Died:
		if what != map[int]int{api.AtEof: Ended, api.Dies: Died}[s.End] || come != len(s.Chunks) || l.Now() != due[come] || len(b) != 0 {
			t.Fatalf("%v: %d, %q behind %d chunks at %d", s, what, b, come, l.Now())
		}
	case Late:
		ends := s.End == api.AtEof || s.End == api.Dies
		if (come < len(s.Chunks) || ends) && due[come] <= limit || l.Now() != limit || len(b) != 0 {
			t.Fatalf("%v: Late, %q behind %d chunks at %d, by %d", s, b, come, l.Now(), limit)
		}
	default:
		t.Fatalf("%v: %d", s, what)
	}
	if l.Rest() != len(s.Chunks)-come {
		t.Fatalf("%v: rest %d behind %d chunks", s, l.Rest(), come)
	}
}
