package sound

import (
	"math/rand"
	"strconv"
	"strings"

	"colloquy/api"
)

// maker makes sound suites.
type maker struct {
	r    *rand.Rand
	left int // steps that the test may still have
}

func anySuite(r *rand.Rand) api.Suite {
	m := &maker{r: r}
	s := api.Suite{Name: m.name(0)}
	for i := range 1 + r.Intn(3) {
		b := api.Board{Name: m.name(i)}
		for j := range r.Intn(3) {
			b.Props = append(b.Props, api.Prop{Name: "p" + strconv.Itoa(j), Val: m.text()})
		}
		s.Boards = append(s.Boards, b)
	}
	for i := range r.Intn(4) {
		g := api.Group{Name: m.name(i)}
		for j := range r.Intn(4) {
			g.Tests = append(g.Tests, m.test(j))
		}
		s.Groups = append(s.Groups, g)
	}
	return s
}

// name is a name that another number doesn't have.
func (m *maker) name(number int) string {
	text := strings.Repeat("x", m.r.Intn(3)) + string([]byte{byte(m.r.Intn(256))})
	return text + "-" + strconv.Itoa(number)
}

func (m *maker) text() string {
	b := make([]byte, m.r.Intn(4))
	for i := range b {
		b[i] = byte(m.r.Intn(256))
	}
	return string(b)
}

func (m *maker) test(number int) api.Test {
	t := api.Test{Name: m.name(number), Budget: pick(m.r, []int{1, 1000, api.MaxTicks}), Kind: max(0, m.r.Intn(6)-3)}
	for range m.r.Intn(3) {
		t.Xfail = append(t.Xfail, m.cond(8))
	}
	m.left = pick(m.r, []int{0, 1, 5, 30, api.MaxSteps})
	for m.left > 0 && m.r.Intn(20) > 0 {
		t.Steps = append(t.Steps, m.steps(1)...)
	}
	return t
}

// cond is a right condition that is at most so deep.
func (m *maker) cond(most int) api.Cond {
	kind := api.Is + m.r.Intn(5)
	if most == 1 {
		kind = api.Is + m.r.Intn(2)
	}
	c := api.Cond{Kind: kind}
	switch kind {
	case api.Is, api.Isnt:
		c.Name, c.Val = pick(m.r, []string{"p0", "p1", "other"}), m.text()
	case api.Not:
		c.Kids = []api.Cond{m.cond(most - 1)}
	default:
		c.Kids = []api.Cond{m.cond(most - 1), m.cond(min(most-1, 3))}
	}
	return c
}

// steps are some steps that are so deep.
func (m *maker) steps(deep int) []api.Step {
	var ss []api.Step
	for m.left > 0 && m.r.Intn(3) > 0 {
		m.left--
		ss = append(ss, m.step(deep))
	}
	return ss
}

func (m *maker) step(deep int) api.Step {
	ticks := []int{0, 1, 7, api.MaxTicks}
	s := api.Step{Kind: api.Send + m.r.Intn(7)}
	for s.Kind == api.Expect && deep > 4 || s.Kind == api.Loop && deep > 5 {
		s.Kind = api.Send + m.r.Intn(7)
	}
	switch s.Kind {
	case api.Send:
		s.Text = m.text()
	case api.Expect:
		s.N = pick(m.r, ticks)
		s.Clauses = m.clauses(deep)
	case api.Loop:
		s.N = pick(m.r, []int{0, 1, 3, api.MaxLoop})
		s.Steps = m.steps(deep + 1)
	case api.Near:
		s.Z = pick(m.r, []complex128{0, 1 + 2i, -0.5i, 1e80})
		s.Tol = pick(m.r, []float64{0, 0.5, 1e-80})
	case api.Wait:
		s.N = pick(m.r, ticks)
	}
	return s
}

// clauses are at least one clause, of a step that is so deep.
func (m *maker) clauses(deep int) []api.Clause {
	var cs []api.Clause
	once := m.r.Perm(4)
	for range pick(m.r, []int{1, 1, 2, 3, 12}) {
		c := api.Clause{Kind: api.Exact + m.r.Intn(3), Again: m.r.Intn(3) == 0, Text: pick(m.r, []string{"", "a", "a*", "[!]a]?"})}
		if c.Kind == api.Regex {
			c.Text = pick(m.r, []string{"", "a|b", "(a+)*", "[^x].?"})
		}
		if len(once) > 0 && m.r.Intn(2) == 0 {
			c = api.Clause{Kind: api.Late + once[0]}
			c.Again = c.Kind == api.Full && m.r.Intn(2) == 0
			once = once[1:]
		}
		c.Steps = m.steps(deep + 2)
		cs = append(cs, c)
	}
	return cs
}
