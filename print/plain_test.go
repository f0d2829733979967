package print

import (
	"fmt"
	"math"
	"math/rand"
	"slices"
	"strconv"
	"strings"

	"colloquy/api"
	"colloquy/cnum"
	"colloquy/cond"
	"colloquy/tok"
)

// plain is Text as the document's form says it: lines without blanks ahead, which are put by how many { are open.
func plain(s api.Suite) string {
	lines := []string{fmt.Sprintf("suite %s", tok.Quoted(s.Name))}
	for _, b := range s.Boards {
		lines = append(lines, fmt.Sprintf("board %s {", tok.Quoted(b.Name)))
		for _, p := range b.Props {
			lines = append(lines, fmt.Sprintf("%s = %s", p.Name, tok.Quoted(p.Val)))
		}
		lines = append(lines, "}")
	}
	for _, g := range s.Groups {
		lines = append(lines, fmt.Sprintf("group %s {", tok.Quoted(g.Name)))
		for _, t := range g.Tests {
			head := fmt.Sprintf("test %s budget %d", tok.Quoted(t.Name), t.Budget)
			for _, c := range t.Xfail {
				if cond.Right(c) {
					head += " xfail " + plainCond(c)
				}
			}
			switch t.Kind {
			case 0:
				lines = append(lines, head+" {")
				lines = append(lines, plainLines(t.Steps)...)
				lines = append(lines, "}")
			case 2:
				lines = append(lines, head+" unsupported")
			default:
				lines = append(lines, head+" untested")
			}
		}
		lines = append(lines, "}")
	}
	return indented(lines, 0)
}

// plainLines are steps' lines.
func plainLines(ss []api.Step) []string {
	var lines []string
	for _, s := range ss {
		switch s.Kind {
		case 1:
			lines = append(lines, "send "+tok.Quoted(s.Text))
		case 2:
			lines = append(lines, fmt.Sprintf("expect %d {", s.N))
			for _, c := range s.Clauses {
				if c.Kind < 1 || c.Kind > 7 {
					continue
				}
				head := []string{"", "exact", "glob", "regex", "late", "eof", "death", "full"}[c.Kind]
				if c.Kind <= 3 {
					head += " " + tok.Quoted(c.Text)
				}
				if c.Again {
					head += " again"
				}
				lines = append(lines, head+" {")
				lines = append(lines, plainLines(c.Steps)...)
				lines = append(lines, "}")
			}
			lines = append(lines, "}")
		case 3:
			lines = append(lines, fmt.Sprintf("loop %d {", s.N))
			lines = append(lines, plainLines(s.Steps)...)
			lines = append(lines, "}")
		case 4:
			lines = append(lines, "near "+plainNumber(s.Z)+" "+plainNumber(complex(s.Tol, 0), s.Tol < 0))
		case 5:
			lines = append(lines, "pass")
		case 6:
			lines = append(lines, "fail")
		case 7:
			lines = append(lines, fmt.Sprintf("wait %d", s.N))
		}
	}
	return lines
}

// plainNumber is a number's text, or 0.
func plainNumber(z complex128, zero ...bool) string {
	if text := cnum.Text(z); text != "?" && !slices.Contains(zero, true) {
		return text
	}
	return "0"
}

// indented are lines, each behind two blanks for each { that it stands in.
func indented(lines []string, deep int) string {
	var out strings.Builder
	for _, l := range lines {
		if l == "}" {
			deep--
		}
		out.WriteString(strings.Repeat("  ", deep) + l + "\n")
		if strings.HasSuffix(l, " {") {
			deep++
		}
	}
	return out.String()
}

// plainCond is a right condition's text: each kind of kid in each kind of condition, as the document's form tells it.
func plainCond(c api.Cond) string {
	var kids []string
	for _, kid := range c.Kids {
		text := plainCond(kid)
		if slices.Contains([]string{"34", "35", "44", "45", "55"}, strconv.Itoa(c.Kind)+strconv.Itoa(kid.Kind)) {
			text = "(" + text + ")"
		}
		kids = append(kids, text)
	}
	switch c.Kind {
	case 1:
		return c.Name + " = " + tok.Quoted(c.Val)
	case 2:
		return c.Name + " != " + tok.Quoted(c.Val)
	case 3:
		return "!" + kids[0]
	case 4:
		return strings.Join(kids, " & ")
	}
	return strings.Join(kids, " | ")
}

// maker makes suites.
type maker struct {
	r      *rand.Rand
	parsed bool // only such that a text may be parsed as
}

func (m maker) text() string {
	b := make([]byte, m.r.Intn(5))
	for i := range b {
		b[i] = byte(m.r.Intn(256))
	}
	return string(b)
}

func (m maker) word() string {
	words := []string{"a", "arch", "suite", "xfail", "pass", "again", "a-1", "Z_9", strings.Repeat("w", 40)}
	if !m.parsed {
		words = append(words, "", "a b", "1", "\n", strings.Repeat("w", 41))
	}
	return words[m.r.Intn(len(words))]
}

// kind is one from low to high, or, of suites that no text may be parsed as, another one at times.
func (m maker) kind(low, high int) int {
	if !m.parsed && m.r.Intn(8) == 0 {
		return []int{-1, low - 1, high + 1, 100, math.MaxInt, math.MinInt}[m.r.Intn(6)]
	}
	return low + m.r.Intn(high-low+1)
}

func (m maker) count() int {
	counts := []int{0, 1, 5, 20, 1000, 999999999, 1000000000}
	if !m.parsed {
		counts = append(counts, -1, 1000000001, math.MaxInt, math.MinInt)
	}
	return counts[m.r.Intn(len(counts))]
}

func (m maker) number() float64 {
	x := []float64{0, 1, 0.5, 2.25, 1e-80, 1e80, 123456789012345, 1e21, 1e20, 999999, 1e6, 0.0001, 1.5e-5, 0.1, 1.23456789012345e33}[m.r.Intn(15)]
	if !m.parsed && m.r.Intn(4) == 0 {
		x = []float64{math.NaN(), math.Inf(1), math.Inf(-1), math.MaxFloat64, math.SmallestNonzeroFloat64, 1.0 / 3}[m.r.Intn(6)]
	}
	return x
}

func (m maker) signed() float64 {
	return m.number() * float64(1-2*m.r.Intn(2))
}

func (m maker) suite() api.Suite {
	s := api.Suite{Name: m.text()}
	for range m.r.Intn(3) {
		b := api.Board{Name: m.text()}
		for range m.r.Intn(3) {
			b.Props = append(b.Props, api.Prop{Name: m.word(), Val: m.text()})
		}
		s.Boards = append(s.Boards, b)
	}
	for range m.r.Intn(3) {
		g := api.Group{Name: m.text()}
		for range m.r.Intn(4) {
			g.Tests = append(g.Tests, m.test())
		}
		s.Groups = append(s.Groups, g)
	}
	return s
}

func (m maker) test() api.Test {
	t := api.Test{Name: m.text(), Kind: m.kind(0, 2), Budget: m.count()}
	for range m.r.Intn(3) {
		t.Xfail = append(t.Xfail, m.cond(1+m.r.Intn(8)))
	}
	if t.Kind == api.Run || !m.parsed {
		t.Steps = m.steps(5)
	}
	return t
}

// steps are some within which at most so many { are open.
func (m maker) steps(deep int) []api.Step {
	var ss []api.Step
	for range m.r.Intn(4) {
		s := api.Step{Kind: m.kind(1, 7)}
		if m.parsed && (s.Kind == api.Expect && deep < 1 || s.Kind == api.Loop && deep < 1) {
			continue
		}
		if s.Kind == api.Send || !m.parsed {
			s.Text = m.text()
		}
		if s.Kind == api.Expect || s.Kind == api.Loop || s.Kind == api.Wait || !m.parsed {
			s.N = m.count()
		}
		if s.Kind == api.Near || !m.parsed {
			s.Z, s.Tol = complex(m.signed(), m.signed()), m.number()
		}
		if !m.parsed && m.r.Intn(3) == 0 {
			s.Tol = -s.Tol
		}
		if (s.Kind == api.Loop || !m.parsed) && deep >= 1 {
			s.Steps = m.steps(deep - 1)
		}
		if (s.Kind == api.Expect || !m.parsed) && deep >= 2 {
			s.Clauses = m.clauses(deep - 2)
		}
		ss = append(ss, s)
	}
	return ss
}

func (m maker) clauses(deep int) []api.Clause {
	var cs []api.Clause
	for range m.r.Intn(4) {
		c := api.Clause{Kind: m.kind(1, 7), Again: m.r.Intn(2) == 0, Steps: m.steps(deep)}
		if c.Kind <= api.Regex || !m.parsed {
			c.Text = m.text()
		}
		cs = append(cs, c)
	}
	return cs
}

// cond is a condition of at most so many, one within another.
func (m maker) cond(deep int) api.Cond {
	if deep <= 1 || m.r.Intn(4) == 0 {
		return api.Cond{Kind: m.kind(1, 2), Name: m.word(), Val: m.text()}
	}
	c := api.Cond{Kind: m.kind(3, 5)}
	kids := 1
	if c.Kind != api.Not {
		kids = 2 + m.r.Intn(2)
	}
	for range kids {
		c.Kids = append(c.Kids, m.cond(deep-1))
	}
	return c
}
