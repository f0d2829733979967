package runner

import (
	"math/rand"
	"slices"
	"strconv"
	"strings"
	"testing"

	"colloquy/api"
	"colloquy/sound"
)

// someSteps are steps that take few ticks.
func someSteps(t *testing.T) []api.Step {
	t.Helper()
	return group(t, `test "t" {
		send "x" pass fail near 1 0.5 near 5 9 wait 0 wait 2 wait 9
		loop 0 { pass } loop 2 { send "y" } loop 2 { wait 2 } loop 3 { expect 1 { exact "a" { } } } loop 2 { loop 2 { expect 1 { regex "[ab]" { } late { } } } near 1 9 }
		expect 0 { exact "a" { } } expect 2 { exact "a" { pass } late { } } expect 9 { glob "b?" { } late { fail } }
		expect 3 { eof { } death { pass } } expect 3 { death { } eof { fail } late { } } expect 2 { full { send "f" } late { wait 1 } }
		expect 3 { regex "[ab]" again { send "r" } late { } } expect 3 { full again { } exact "ab" { near 0 9 } late { } eof { } }
		expect 3 { regex "[0-9]+" { near 1 0 } } expect 2 { regex "[0-9]" again { near 1 1 } late { } eof { } } expect 1 { exact "" { } } expect 2 { exact "" again { expect 1 { exact "a" { } } } }
	}`).Tests[0].Steps
}

func someStreams() [][]api.Stream {
	return [][]api.Stream{
		nil, streams("1:a 1:b"), streams("0:bab 2:a", "2:b 1:EOF"), streams("1:12 1:1 1:7", "1:a"), streams("2:EOF", "", "1:DEATH"),
		streams("1:DEATH", "0:abab 0:1EOF"), streams("2:a 0: 2:ba 2:a 1:EOF", "3:a"), streams("1:aaaa 5:b1 1:DEATH", "0:1"),
	}
}

// TestEveryTest does all tests of up to three steps, and another one behind each.
func TestEveryTest(t *testing.T) { // P19.1 to P19.3
	some := someSteps(t)
	behind := group(t, `test "u" budget 3 { expect 4 { exact "b" { pass } late { } exact "1" { near 1 1 fail } } }`).Tests[0]
	lists := [][]api.Step{nil}
	for _, one := range some {
		lists = append(lists, []api.Step{one})
		for _, two := range some {
			lists = append(lists, []api.Step{one, two})
			for _, three := range some {
				lists = append(lists, []api.Step{one, two, three})
			}
		}
	}
	all := someStreams()
	for i, steps := range lists {
		g := api.Group{Tests: []api.Test{{Name: "t", Budget: 4 + i%5, Steps: steps}, behind}}
		for j, ss := range all {
			hold(t, i, g, someBoard, ss, Conf{Buffer: 2 + (i+j)%4, Fuel: 40 >> (i % 3)})
		}
	}
}

// TestEveryFuel does tests with each fuel, down to none.
func TestEveryFuel(t *testing.T) { // P19.1
	some := someSteps(t)
	for i, one := range some {
		for j, two := range some {
			g := api.Group{Tests: []api.Test{{Name: "t", Budget: 7, Steps: []api.Step{one, two}}, {Name: "u", Budget: 7, Steps: []api.Step{two}}}}
			for fuel := range 25 {
				hold(t, i, g, someBoard, someStreams()[1+(i+j)%7], Conf{Buffer: 3, Fuel: fuel})
			}
		}
	}
}

// maker makes sound groups.
type maker struct {
	r    *rand.Rand
	left int // steps that the test may still have
}

func (m *maker) group() api.Group {
	g := api.Group{Name: "g"}
	for i := range 1 + m.r.Intn(6) {
		one := api.Test{Name: "t" + strconv.Itoa(i), Budget: 1 + m.r.Intn(40), Kind: max(0, m.r.Intn(12)-9)}
		for range max(0, m.r.Intn(4)-1) {
			c := api.Cond{Kind: api.Is + m.r.Intn(2), Name: []string{"x", "y", "z"}[m.r.Intn(3)], Val: []string{"1", "2"}[m.r.Intn(2)]}
			if m.r.Intn(3) == 0 {
				c = api.Cond{Kind: api.Not, Kids: []api.Cond{c}}
			}
			if m.r.Intn(3) == 0 {
				c = api.Cond{Kind: api.And + m.r.Intn(2), Kids: []api.Cond{c, {Kind: api.Is, Name: "x", Val: "1"}}}
			}
			one.Xfail = append(one.Xfail, c)
		}
		m.left = 30
		one.Steps = m.steps(1, 1+m.r.Intn(8))
		g.Tests = append(g.Tests, one)
	}
	return g
}

// steps are at most so many steps that are so deep; what decides at once is rarer ahead of others.
func (m *maker) steps(deep, most int) []api.Step {
	var ss []api.Step
	for len(ss) < most && m.left > 0 {
		m.left--
		s := m.step(deep)
		ss = append(ss, s)
		if s.Kind == api.Pass || s.Kind == api.Fail {
			break
		}
	}
	return ss
}

func (m *maker) step(deep int) api.Step {
	kinds := []int{api.Send, api.Expect, api.Expect, api.Expect, api.Expect, api.Loop, api.Loop, api.Near, api.Pass, api.Fail, api.Wait}
	s := api.Step{Kind: kinds[m.r.Intn(len(kinds))]}
	for s.Kind == api.Expect && deep > 4 || s.Kind == api.Loop && deep > 5 {
		s.Kind = kinds[m.r.Intn(len(kinds))]
	}
	switch s.Kind {
	case api.Send:
		s.Text = "s" + strconv.Itoa(m.r.Intn(3))
	case api.Expect:
		s.N = m.r.Intn(9)
		s.Clauses = m.clauses(deep)
	case api.Loop:
		s.N = m.r.Intn(5)
		s.Steps = m.steps(deep+1, 3)
	case api.Near:
		s.Z = complex(float64(m.r.Intn(10)), float64(m.r.Intn(5)/4))
		s.Tol = float64(m.r.Intn(12))
	case api.Wait:
		s.N = m.r.Intn(7)
	}
	return s
}

func (m *maker) clauses(deep int) []api.Clause {
	texts := map[int][]string{
		api.Exact: {"a", "b", "ab", "1", "bb", "aba", "", "-2"},
		api.Glob:  {"a*b", "?", "[!a]b", "b?", "*1", "aa"},
		api.Regex: {"a|ba", "(ab)+", "[0-9]+", "-?[0-9]", "b*", "b+a", "a[^b]"},
	}
	var cs []api.Clause
	once := m.r.Perm(4)
	for range 1 + m.r.Intn(4) {
		c := api.Clause{Kind: api.Exact + m.r.Intn(3), Again: m.r.Intn(3) == 0}
		c.Text = texts[c.Kind][m.r.Intn(len(texts[c.Kind]))]
		if m.r.Intn(2) == 0 && len(once) > 0 {
			c = api.Clause{Kind: api.Late + once[0]}
			c.Again = c.Kind == api.Full && m.r.Intn(2) == 0
			once = once[1:]
		}
		c.Steps = m.steps(deep+2, m.r.Intn(3))
		cs = append(cs, c)
	}
	return cs
}

func (m *maker) streams() []api.Stream {
	var ss []api.Stream
	for range m.r.Intn(5) {
		s := api.Stream{End: m.r.Intn(6) - 1, Wait: m.r.Intn(9) - 1}
		for range m.r.Intn(12) {
			b := make([]byte, m.r.Intn(6))
			for i := range b {
				b[i] = "aabbab12-"[m.r.Intn(9)]
			}
			s.Chunks = append(s.Chunks, api.Chunk{Wait: m.r.Intn(6) - 1, B: b})
		}
		ss = append(ss, s)
	}
	return ss
}

func TestAnyGroups(t *testing.T) { // P19.1 to P19.3
	m := &maker{r: rand.New(rand.NewSource(1))}
	verdicts, kinds, longest := [8]int{}, [15]int{}, 0
	for i := range 20000 {
		g := m.group()
		if i%100 == 0 {
			if f := sound.Check(api.Suite{Name: "s", Boards: []api.Board{{Name: "b"}}, Groups: []api.Group{g}}); f.Code != api.OK {
				t.Fatalf("%+v: %+v", g, f)
			}
		}
		c := Conf{Buffer: m.r.Intn(12), Fuel: []int{5, 40, 400, 400, 4000}[m.r.Intn(5)]}
		r := hold(t, i, g, someBoard, m.streams(), c)
		for j, es := range r.Entry.Traces {
			verdicts[r.Entry.Results[j].Verdict]++
			longest = max(longest, len(es))
			for _, e := range es {
				kinds[e.Kind]++
			}
		}
	}
	if slices.Min(verdicts[1:]) < 1000 || slices.Min(kinds[1:]) < 200 || longest < 100 {
		t.Errorf("the verdicts were %v, the events %v, the longest trace %d", verdicts, kinds, longest)
	}
}

// TestSpread: a test that finds no session doesn't know of those ahead of it, but by their number, and by the fuel.
func TestSpread(t *testing.T) { // P19.1, P19.3
	m := &maker{r: rand.New(rand.NewSource(2))}
	split := 0
	for range 3000 {
		g, ss := m.group(), m.streams()
		whole := Run(0, g, someBoard, ss, Conf{Buffer: 5, Fuel: 4000})
		for i := range g.Tests {
			if i == 0 || whole.Entry.Results[i-1].Verdict != api.UNRESOLVED {
				continue
			}
			ahead := Run(0, api.Group{Tests: g.Tests[:i]}, someBoard, ss, Conf{Buffer: 5, Fuel: 4000})
			rest := Run(0, api.Group{Tests: g.Tests[i:]}, someBoard, ss[min(ahead.Sessions, len(ss)):], Conf{Buffer: 5, Fuel: ahead.Fuel})
			for _, es := range rest.Entry.Traces {
				for k := range es {
					if es[k].Kind == api.Spawned {
						es[k].N += ahead.Sessions
					}
				}
			}
			rest.Entry.Results = slices.Concat(ahead.Entry.Results, rest.Entry.Results)
			rest.Entry.Traces = slices.Concat(ahead.Entry.Traces, rest.Entry.Traces)
			rest.Sessions += ahead.Sessions
			rest.Ticks += ahead.Ticks
			if !sameReport(whole, rest) {
				t.Fatalf("%+v, %+v, split at test %d:\n%+v\nnot\n%+v", g, ss, i, rest, whole)
			}
			split++
		}
	}
	if split < 1000 {
		t.Errorf("only %d were split", split)
	}
}

// TestSame: a report hangs on the arguments alone.
func TestSame(t *testing.T) { // DOC P2
	m := &maker{r: rand.New(rand.NewSource(3))}
	for i := range 500 {
		g, ss, c := m.group(), m.streams(), Conf{Buffer: m.r.Intn(9), Fuel: m.r.Intn(300)}
		first := Run(i, g, someBoard, ss, c)
		Run(i+1, m.group(), api.Board{}, m.streams(), someConf)
		if again := Run(i, g, someBoard, ss, c); !sameReport(first, again) {
			t.Fatalf("%+v, and then %+v", first, again)
		}
	}
}

// TestVerdicts: the verdict is that of the last event, by one table.
func TestVerdicts(t *testing.T) { // P19.2, DOC P5
	m := &maker{r: rand.New(rand.NewSource(4))}
	table := map[int]string{api.Passed: "PASS", api.Failed: "FAIL", api.Far: "FAIL"}
	for range 3000 {
		g := m.group()
		for i := range g.Tests {
			g.Tests[i].Xfail = nil
			if i%2 == 0 {
				g.Tests[i].Xfail = []api.Cond{{Kind: api.Isnt, Name: "x", Val: "2"}}
			}
		}
		r := Run(0, g, someBoard, m.streams(), Conf{Buffer: 6, Fuel: 500})
		for i, es := range r.Entry.Traces {
			want := "UNRESOLVED"
			if len(es) > 0 && table[es[len(es)-1].Kind] != "" {
				want = table[es[len(es)-1].Kind]
				if i%2 == 0 {
					want = "X" + want
				}
			}
			if kind := g.Tests[i].Kind; kind != api.Run {
				want = []string{"", "UNTESTED", "UNSUPPORTED"}[kind]
			}
			if got, _, _ := strings.Cut(fate(r.Entry.Results[i], es), ":"); got != want {
				t.Fatalf("%s of %+v", got, es)
			}
		}
	}
}
