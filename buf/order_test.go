package buf

import (
	"math/rand"
	"testing"
)

// plain is a buffer as the document tells it, to which bytes come one by one.
type plain struct {
	there string
	most  int
	gone  int64
}

func (m *plain) put(text string) int {
	n := 0
	for i := range len(text) {
		m.there += text[i : i+1]
		if len(m.there) > m.most {
			m.there = m.there[1:]
			n++
		}
	}
	m.gone += int64(n)
	return n
}

func (m *plain) take(n int) string {
	taken := ""
	for ; n > 0 && m.there != ""; n-- {
		taken += m.there[:1]
		m.there = m.there[1:]
	}
	return taken
}

// call is a call of Put, or of Take where take holds.
type call struct {
	text string
	take bool
	n    int
}

// play does calls on a buffer and on the document's one, and holds all they tell against each other.
func play(t *testing.T, most int, calls []call) {
	t.Helper()
	b, m := New(most), &plain{most: most}
	for i, c := range calls {
		if c.take {
			if got, want := b.Take(c.n), m.take(c.n); string(got) != want {
				t.Fatalf("%d, %v: the last one = %q, not %q", most, calls[:i+1], got, want)
			}
		} else if got, want := b.Put([]byte(c.text)), m.put(c.text); got != want {
			t.Fatalf("%d, %v: the last one = %d, not %d", most, calls[:i+1], got, want)
		}
		if got := b.Bytes(); string(got) != m.there || b.Full() != (len(m.there) == most) || b.Gone() != m.gone {
			t.Fatalf("%d, %v: %q, full %v, gone %d, not %q, gone %d", most, calls[:i+1], got, b.Full(), b.Gone(), m.there, m.gone)
		}
	}
}

func TestEveryOrder(t *testing.T) { // P11.1
	some := []call{
		{text: ""}, {text: "a"}, {text: "bc"}, {text: "def"}, {text: "ghij"}, {text: "klmnopq"},
		{take: true, n: -1}, {take: true, n: 0}, {take: true, n: 1}, {take: true, n: 2}, {take: true, n: 9},
	}
	const long = 5
	calls := make([]call, long)
	var fill func(at int)
	fill = func(at int) {
		if at == long {
			for most := 1; most <= 4; most++ {
				play(t, most, calls)
			}
			return
		}
		for _, c := range some {
			calls[at] = c
			fill(at + 1)
		}
	}
	fill(0)
}

func anyText(r *rand.Rand, most int) string {
	b := make([]byte, r.Intn(most))
	for i := range b {
		b[i] = byte(r.Intn(256))
	}
	return string(b)
}

func TestAnyCalls(t *testing.T) { // P11.1
	r := rand.New(rand.NewSource(1))
	for range 5000 {
		most := 1 + r.Intn(40)
		calls := make([]call, 60)
		for i := range calls {
			calls[i] = call{text: anyText(r, 60), take: r.Intn(2) == 0, n: r.Intn(60) - 5}
		}
		play(t, most, calls)
	}
}

// TestNothingIsLost knows of a buffer only what was put, and what Put and Take answer.
func TestNothingIsLost(t *testing.T) { // P11.2
	r := rand.New(rand.NewSource(2))
	for range 1000 {
		most := []int{1, 2, 7, 100, 1999, 2000}[r.Intn(6)]
		b := New(most)
		all := ""  // that was put and has neither gone nor been taken
		sum := 0   // of all that was put
		taken := 0 // of all that was taken
		for range 60 {
			if r.Intn(3) == 0 {
				got := string(b.Take(r.Intn(2*most) - 2))
				if len(got) > len(all) || got != all[:len(got)] {
					t.Fatalf("%.50q was taken of %.50q", got, all)
				}
				all = all[len(got):]
				taken += len(got)
			} else {
				text := anyText(r, 1+r.Intn(2*most+2))
				all += text
				sum += len(text)
				all = all[b.Put([]byte(text)):]
			}
			if got := string(b.Bytes()); got != all || len(got) > most {
				t.Fatalf("%.50q is there, not %.50q", got, all)
			}
			if b.Gone()+int64(taken+len(all)) != int64(sum) {
				t.Fatalf("%d have gone, %d were taken and %d are there of %d", b.Gone(), taken, len(all), sum)
			}
		}
	}
}
