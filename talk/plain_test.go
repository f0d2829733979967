package talk

import (
	"regexp"
	"testing"

	"colloquy/api"
	"colloquy/buf"
	"colloquy/line"
)

// look is a clause, and the library's expression that means what it looks for; of one that looks for nothing it is empty.
type look struct {
	clause api.Clause
	expr   *regexp.Regexp
}

func looks(clause api.Clause, expr string) look {
	if clause.Kind > api.Regex {
		return look{clause, nil}
	}
	r := regexp.MustCompile("(?s)" + expr)
	r.Longest()
	return look{clause, r}
}

// plain is a session and a buffer as the document tells them.
type plain struct {
	coming []thing
	now    int64
	there  string
	most   int
	gone   int // in all waits
}

// thing is something that comes, and when.
type thing struct {
	what int
	text string
	at   int64
}

func plainOf(s api.Stream, most int, there string) *plain {
	m := &plain{most: most}
	m.put(there)
	at := int64(0)
	for _, c := range s.Chunks {
		at += int64(min(max(c.Wait, 0), 1000000))
		m.coming = append(m.coming, thing{line.Chunk, string(c.B), at})
	}
	at += int64(min(max(s.Wait, 0), 1000000))
	switch s.End {
	case 1:
		m.coming = append(m.coming, thing{line.Ended, "", at})
	case 2:
		m.coming = append(m.coming, thing{line.Died, "", at})
	}
	return m
}

func (m *plain) put(text string) int {
	gone := 0
	for m.there += text; len(m.there) > m.most; gone++ {
		m.there = m.there[1:]
	}
	m.gone += gone
	return gone
}

func (m *plain) next(limit int64) thing {
	if limit < m.now {
		limit = m.now
	}
	if len(m.coming) == 0 || m.coming[0].at > limit {
		m.now = limit
		return thing{line.Late, "", limit}
	}
	x := m.coming[0]
	if x.at > m.now {
		m.now = x.at
	}
	if x.what == line.Chunk {
		m.coming = m.coming[1:]
	}
	return x
}

// chunks is how many chunks haven't come.
func (m *plain) chunks() int {
	n := 0
	for _, x := range m.coming {
		if x.what == line.Chunk {
			n++
		}
	}
	return n
}

// found is the first of the clauses whose pattern is found, and the piece's place; -1: none is.
func (m *plain) found(ls []look) (int, []int) {
	for i, l := range ls {
		if l.expr != nil {
			if at := l.expr.FindStringIndex(m.there); at != nil {
				return i, at
			}
		}
	}
	return -1, nil
}

// of is the number of the first clause of a Kind.
func of(ls []look, kind int) int {
	for i, l := range ls {
		if l.clause.Kind == kind {
			return i
		}
	}
	return -1
}

// wait is Wait as the chapter writes it.
func (m *plain) wait(ls []look, until, bound int64) Outcome {
	gone := 0
	for {
		if i, at := m.found(ls); i >= 0 {
			text := m.there[at[0]:at[1]]
			m.there = m.there[at[1]:]
			return outcome(Matched, i, text, gone)
		}
		limit := until
		if bound < until {
			limit = bound
		}
		switch x := m.next(limit); x.what {
		case line.Chunk:
			gone += m.put(x.text)
			i, _ := m.found(ls)
			if len(m.there) == m.most && of(ls, 7) >= 0 && i < 0 {
				text := m.there
				m.there = ""
				return outcome(Filled, of(ls, 7), text, gone)
			}
		case line.Ended:
			return outcome(Over, of(ls, 5), "", gone)
		case line.Died:
			return outcome(Dead, of(ls, 6), "", gone)
		case line.Late:
			if bound < until {
				return outcome(Spent, -1, "", gone)
			}
			return outcome(TimedOut, of(ls, 4), "", gone)
		}
	}
}

// asked is a wait's clauses and times.
type asked struct {
	ls           []look
	cs           []Clause
	until, bound int64
}

func ask(t *testing.T, until, bound int64, ls ...look) asked {
	t.Helper()
	var cs []api.Clause
	for _, l := range ls {
		cs = append(cs, l.clause)
	}
	return asked{ls, ready(t, cs...), until, bound}
}

// play does waits in a session and in the document's one, and holds all they tell against each other.
func play(t *testing.T, s api.Stream, most int, there string, as []asked) {
	t.Helper()
	l, b, m := line.Open(s), buf.New(most), plainOf(s, most, there)
	b.Put([]byte(there))
	for i, a := range as {
		got, want := Wait(l, b, a.cs, a.until, a.bound), m.wait(a.ls, a.until, a.bound)
		if !same(got, want) {
			t.Fatalf("%v, %d, %q: wait %d until %d, bound %d of %v = %v, not %v", s, most, there, i, a.until, a.bound, a.ls, got, want)
		}
		if l.Now() != m.now || l.Rest() != m.chunks() || len(l.Sent()) != 0 {
			t.Fatalf("%v, %d, %q: behind wait %d of %v at %d, rest %d, not %d, %d", s, most, there, i, a.ls, l.Now(), l.Rest(), m.now, m.chunks())
		}
		if string(b.Bytes()) != m.there || b.Gone() != int64(m.gone) {
			t.Fatalf("%v, %d, %q: behind wait %d of %v %q, gone %d, not %q, %d", s, most, there, i, a.ls, b.Bytes(), b.Gone(), m.there, m.gone)
		}
	}
}
