package suite

import (
	"math/rand"
	"strings"

	"colloquy/api"
	"colloquy/tok"
)

// maker makes suites, and the tokens of a text of each, as the document's form has them.
type maker struct {
	r      *rand.Rand
	tokens []string
	opens  int
}

func (m *maker) put(tokens ...string) { m.tokens = append(m.tokens, tokens...) }

// often tells, with so many chances in ten, whether something is there.
func (m *maker) often(chances int) bool { return m.r.Intn(10) < chances }

func (m *maker) quote() string {
	b := make([]byte, m.r.Intn(4))
	for i := range b {
		b[i] = byte(m.r.Intn(256))
	}
	m.put(tok.Quoted(string(b)))
	return string(b)
}

func (m *maker) name() string {
	names := []string{"a", "arch", "suite", "test", "xfail", "untested", "budget", "again", "late", "pass", "i", "a-1", "Z_9", strings.Repeat("w", 41)}
	name := names[m.r.Intn(len(names))]
	m.put(name)
	return name
}

func (m *maker) count() int {
	texts := []string{"0", "7", "007", "+20", "5.0", "2.5e1", "50e-1", "-0", "3+0i", "1e9", "1000000000", "999999999", "1e+03", "12345E0", "0-0i"}
	values := []int{0, 7, 7, 20, 5, 25, 5, 0, 3, 1000000000, 1000000000, 999999999, 1000, 12345, 0}
	i := m.r.Intn(len(texts))
	m.put(texts[i])
	return values[i]
}

func (m *maker) number() complex128 {
	texts := []string{"0", "-0", "1+2i", "-i", "+i", "0.50", "-2.5e3-1e-3i", "1e80", "1e-80", "123456789012345", "2i", "-7-0i"}
	values := []complex128{0, 0, 1 + 2i, -1i, 1i, 0.5, -2500 - 0.001i, 1e80, 1e-80, 123456789012345, 2i, -7}
	i := m.r.Intn(len(texts))
	m.put(texts[i])
	return values[i]
}

func (m *maker) amount() float64 {
	texts := []string{"0", "-0", "0.5", "+1e80", "1e-80", "2.50", "3+0i", "1000000001"}
	values := []float64{0, 0, 0.5, 1e80, 1e-80, 2.5, 3, 1000000001}
	i := m.r.Intn(len(texts))
	m.put(texts[i])
	return values[i]
}

func (m *maker) suite() api.Suite {
	m.put("suite")
	s := api.Suite{Name: m.quote()}
	for range m.r.Intn(3) {
		m.put("board")
		b := api.Board{Name: m.quote()}
		m.put("{")
		for range m.r.Intn(3) {
			p := api.Prop{Name: m.name()}
			m.put("=")
			p.Val = m.quote()
			b.Props = append(b.Props, p)
		}
		m.put("}")
		s.Boards = append(s.Boards, b)
	}
	for range m.r.Intn(3) {
		m.put("group")
		g := api.Group{Name: m.quote()}
		m.put("{")
		for range m.r.Intn(4) {
			g.Tests = append(g.Tests, m.test())
		}
		m.put("}")
		s.Groups = append(s.Groups, g)
	}
	return s
}

func (m *maker) test() api.Test {
	m.put("test")
	t := api.Test{Name: m.quote(), Budget: 1000}
	if m.often(5) {
		m.put("budget")
		t.Budget = m.count()
	}
	for m.often(4) {
		m.put("xfail")
		t.Xfail = append(t.Xfail, m.cond())
	}
	t.Kind = max(0, m.r.Intn(8)-5)
	if t.Kind == api.Run {
		t.Steps = m.block(1)
	} else {
		m.put([]string{"", "untested", "unsupported"}[t.Kind])
	}
	return t
}

// block is a block whose { is the one of this number that is open.
func (m *maker) block(open int) []api.Step {
	m.put("{")
	var steps []api.Step
	for m.often(6) {
		steps = append(steps, m.step(open))
	}
	m.put("}")
	return steps
}

func (m *maker) step(open int) api.Step {
	s := api.Step{Kind: 1 + m.r.Intn(7)}
	for open > 5 && (s.Kind == api.Expect || s.Kind == api.Loop) {
		s.Kind = 1 + m.r.Intn(7)
	}
	m.put([]string{"", "send", "expect", "loop", "near", "pass", "fail", "wait"}[s.Kind])
	switch s.Kind {
	case api.Send:
		s.Text = m.quote()
	case api.Expect:
		s.N = m.count()
		m.put("{")
		for open < 5 && m.often(6) {
			s.Clauses = append(s.Clauses, m.clause(open+2))
		}
		m.put("}")
	case api.Loop:
		s.N = m.count()
		s.Steps = m.block(open + 1)
	case api.Near:
		s.Z = m.number()
		s.Tol = m.amount()
	case api.Wait:
		s.N = m.count()
	}
	return s
}

func (m *maker) clause(open int) api.Clause {
	c := api.Clause{Kind: 1 + m.r.Intn(7), Again: m.often(3)}
	m.put([]string{"", "exact", "glob", "regex", "late", "eof", "death", "full"}[c.Kind])
	if c.Kind < api.Late {
		c.Text = m.quote()
	}
	if c.Again {
		m.put("again")
	}
	c.Steps = m.block(open)
	return c
}

func (m *maker) cond() api.Cond {
	return m.parts(api.Or, "|", func() api.Cond { return m.parts(api.And, "&", m.not) })
}

func (m *maker) parts(kind int, sign string, part func() api.Cond) api.Cond {
	c := api.Cond{Kind: kind, Kids: []api.Cond{part()}}
	for m.often(3) {
		m.put(sign)
		c.Kids = append(c.Kids, part())
	}
	if len(c.Kids) == 1 {
		return c.Kids[0]
	}
	return c
}

func (m *maker) not() api.Cond {
	if m.opens == 8 || m.often(6) {
		c := api.Cond{Kind: api.Is, Name: m.name()}
		if m.often(5) {
			m.put("!")
			c.Kind = api.Isnt
		}
		m.put("=")
		c.Val = m.quote()
		return c
	}
	m.opens++
	defer func() { m.opens-- }()
	if m.often(5) {
		m.put("!")
		return api.Cond{Kind: api.Not, Kids: []api.Cond{m.not()}}
	}
	m.put("(")
	c := m.cond() // parens that aren't needed, too
	m.put(")")
	return c
}

// joined are tokens with a blank between.
func joined(tokens []string) string { return strings.Join(tokens, " ") }

// loose are tokens with any blanks and remarks between, or none where they don't cling.
func loose(r *rand.Rand, tokens []string) string {
	some := []string{" ", "\t", "\n", "\r", "\r\n", "#\n", "# suite \"{?\x00\xff\n", "##\r\n"}
	var out strings.Builder
	bare := true // the token ahead doesn't cling to anything
	for _, one := range tokens {
		alone := strings.Contains(`{}()=!&|"`, one[:1])
		if !bare && !alone || r.Intn(2) == 0 {
			for range 1 + r.Intn(3) {
				out.WriteString(some[r.Intn(len(some))])
			}
		}
		out.WriteString(one)
		bare = alone
	}
	if r.Intn(2) == 0 {
		out.WriteString(" # the end")
	}
	return out.String()
}

// made is a suite, and its text's tokens.
func made(r *rand.Rand) (api.Suite, []string) {
	m := &maker{r: r}
	s := m.suite()
	return s, m.tokens
}
