package runner

import (
	"math"
	"slices"
	"strings"
	"testing"

	"colloquy/api"
	"colloquy/trace"
)

func oneTest(budget int, ss ...api.Step) api.Group {
	return api.Group{Name: "g", Tests: []api.Test{{Name: "t", Budget: budget, Steps: ss}}}
}

// TestNotReady: a clause that can't be made ready makes an Expect Spent, whatever the others are.
func TestNotReady(t *testing.T) { // P19.1
	good := api.Clause{Kind: api.Exact, Steps: []api.Step{{Kind: api.Pass}}}
	for _, bad := range []api.Clause{
		{Kind: api.Exact, Text: strings.Repeat("x", api.MaxPattern+1)}, {Kind: api.Glob, Text: "["}, {Kind: api.Regex, Text: "("}, {Kind: api.Regex, Text: "*"},
		{}, {Kind: -1}, {Kind: 8, Text: "a"}, {Kind: math.MaxInt}, {Kind: math.MinInt, Again: true},
	} {
		for _, cs := range [][]api.Clause{{bad}, {good, bad}, {bad, good}, {good, {Kind: api.Late}, bad, bad}} {
			wait := api.Step{Kind: api.Wait, N: 3}
			r := Run(0, oneTest(9, wait, api.Step{Kind: api.Expect, N: 3, Clauses: cs}, api.Step{Kind: api.Pass}), someBoard, streams("1:a 1:b"), someConf)
			if got := fate(r.Entry.Results[0], r.Entry.Traces[0]); got != "UNRESOLVED: 0 spawned 0, 3 waited 3, 3 spent" || r.Fuel != 998 || !trace.Right(r.Entry.Traces[0]) {
				t.Errorf("%v: %s, %d fuel left", bad, got, r.Fuel)
			}
		}
	}
	// A step that isn't come to needs not be ready; another test knows nothing of one that was.
	bad := api.Step{Kind: api.Expect, Clauses: []api.Clause{{Kind: api.Regex, Text: "("}}}
	r := Run(0, oneTest(9, api.Step{Kind: api.Expect, Clauses: []api.Clause{good, {Kind: api.Late, Steps: []api.Step{bad}}}}, bad), someBoard, nil, someConf)
	if got := fate(r.Entry.Results[0], r.Entry.Traces[0]); got != "PASS: 0 spawned 0, 0 matched 0, 0 passed" {
		t.Errorf("%s", got)
	}
}

// TestSameText: clauses of one text are others, if their Kinds are.
func TestSameText(t *testing.T) { // P19.1
	runAll(t, []ran{
		{`test "t" { expect 2 { exact "a*" { pass } glob "a*" { fail } } }`, []string{"1:aab"}, []string{"FAIL: 0 spawned 0, 1 matched 1 aab, 1 failed"}, [3]int{1, 2, 1}},
		{`test "t" { expect 2 { exact "a*" { pass } regex "a*" { fail } } }`, []string{"1:aab"}, []string{"FAIL: 0 spawned 0, 0 matched 1, 0 failed"}, [3]int{1, 2, 0}},
		{`test "t" { expect 2 { exact "a?" { } late { } } expect 2 { regex "ba?" { } } expect 2 { glob "a?" { } } expect 0 { regex "a?" { pass } } }`, []string{"1:aabaab"}, []string{"PASS: 0 spawned 0, 2 late 1, 2 matched 0 ba, 2 matched 0 ab, 2 matched 0, 2 passed"}, [3]int{1, 5, 2}},
		{`test "t" { loop 3 { expect 2 { exact "a" { } exact "a" { fail } exact "b" { send "s" } } } pass }`, []string{"1:a 1:b 1:a"}, []string{"PASS: 0 spawned 0, 1 matched 0 a, 2 matched 2 b, 2 sent s, 3 matched 0 a, 3 passed"}, [3]int{1, 9, 3}},
	})
	// What is no pattern has a text that is nothing to it.
	late := api.Step{Kind: api.Expect, N: 1, Clauses: []api.Clause{{Kind: api.Late, Text: "("}, {Kind: api.Eof, Text: "a"}, {Kind: api.Exact, Text: "a"}}}
	hold(t, 0, oneTest(9, late, late, late), someBoard, streams("1:a 2:EOF"), someConf)
}

// TestEnds: steps that no sound suite has are done till the fuel is over.
func TestEnds(t *testing.T) { // DOC P1, P19.1
	holding := []api.Step{{Kind: api.Loop, N: 2}}
	holding[0].Steps = holding
	expecting := []api.Step{{Kind: api.Expect, N: 1, Clauses: []api.Clause{{Kind: api.Exact}}}}
	expecting[0].Clauses[0].Steps = expecting
	again := []api.Step{{Kind: api.Expect, Clauses: []api.Clause{{Kind: api.Late, Again: true}}}}
	for i, ss := range [][]api.Step{
		holding, expecting, again,
		{{Kind: api.Loop, N: math.MaxInt}}, {{Kind: api.Loop, N: math.MaxInt, Steps: []api.Step{{Kind: api.Loop, N: 1 << 40}}}},
		{{Kind: api.Expect, Clauses: []api.Clause{{Kind: api.Eof, Again: true}, {Kind: api.Death, Again: true}, {Kind: api.Late, Again: true}}}},
		slices.Repeat([]api.Step{{Kind: 99}}, api.MaxFuel+1), slices.Repeat([]api.Step{{Kind: api.Send}}, api.MaxFuel+1),
	} {
		for _, text := range []string{"", "1:EOF", "1:DEATH"} {
			r := Run(0, oneTest(9, ss...), someBoard, streams(text), Conf{Buffer: 9, Fuel: math.MaxInt})
			es := r.Entry.Traces[0]
			if r.Fuel != 0 || es[len(es)-1].Kind != api.NoFuel || r.Entry.Results[0].Verdict != api.UNRESOLVED {
				t.Errorf("%d, %s: %d fuel left, %d events, %v", i, text, r.Fuel, len(es), es[len(es)-1])
			}
		}
	}
}

// TestNumbers: numbers of all sizes end, and don't panic.
func TestNumbers(t *testing.T) { // DOC P1
	some := []int{math.MinInt, math.MinInt + 1, -1 << 32, -1, 0, 1, 3, api.MaxTicks + 1, 1 << 32, 1<<63 - 1, math.MaxInt - 1}
	clauses := []api.Clause{{Kind: api.Exact, Text: "b", Again: true}, {Kind: api.Late}, {Kind: api.Full}}
	for _, n := range some {
		for _, budget := range some {
			g := oneTest(budget, api.Step{Kind: api.Wait, N: n}, api.Step{Kind: api.Expect, N: n, Clauses: clauses}, api.Step{Kind: api.Loop, N: n, Steps: []api.Step{{Kind: api.Wait, N: n}}}, api.Step{Kind: n})
			g.Tests = append(g.Tests, g.Tests[0], api.Test{Kind: n, Budget: budget, Steps: g.Tests[0].Steps})
			for _, wait := range some {
				s := api.Stream{Chunks: []api.Chunk{{Wait: wait, B: []byte("ab")}, {Wait: n, B: []byte("b")}}, End: budget, Wait: wait}
				r := Run(n, g, api.Board{}, []api.Stream{s, s}, Conf{Buffer: wait, Fuel: 50})
				if len(r.Entry.Results) != 3 || len(r.Entry.Traces) != 3 || r.Entry.Group != n || r.Fuel < 0 || r.Fuel > 50 {
					t.Fatalf("%d, %d, %d: %+v", n, budget, wait, r)
				}
			}
		}
	}
}

// TestNearNumbers: a Near whose numbers aren't right is Far.
func TestNearNumbers(t *testing.T) { // DOC P1
	inf, nan := math.Inf(1), math.NaN()
	find := api.Step{Kind: api.Expect, Clauses: []api.Clause{{Kind: api.Glob, Text: "*"}}}
	for _, s := range []api.Step{{Z: complex(nan, 0)}, {Z: complex(5, inf), Tol: inf}, {Z: complex(inf, 0), Tol: inf}, {Z: 5, Tol: nan}, {Z: 6, Tol: -1}} {
		s.Kind = api.Near
		r := Run(0, oneTest(9, api.Step{Kind: api.Wait}, find, s, api.Step{Kind: api.Pass}), someBoard, streams("0:5"), someConf)
		if got := fate(r.Entry.Results[0], r.Entry.Traces[0]); got != "FAIL: 0 spawned 0, 0 waited 0, 0 matched 0 5, 0 far" {
			t.Errorf("%v: %s", s, got)
		}
	}
	s := api.Step{Kind: api.Near, Z: 5, Tol: inf}
	if r := Run(0, oneTest(9, api.Step{Kind: api.Wait}, find, s, api.Step{Kind: api.Pass}), someBoard, streams("0:7"), someConf); r.Entry.Results[0].Verdict != api.PASS {
		t.Errorf("%+v", r)
	}
}

// TestWrongConds: a condition that isn't right holds of no board.
func TestWrongConds(t *testing.T) { // DOC P1, P19.2
	self := api.Cond{Kind: api.And, Kids: make([]api.Cond, 2)}
	self.Kids[0], self.Kids[1] = self, self
	for _, c := range []api.Cond{{}, {Kind: 9}, {Kind: api.Not}, {Kind: api.And}, {Kind: api.Or}, {Kind: api.Is, Name: "not a word", Val: "1"}, self} {
		g := oneTest(9, api.Step{Kind: api.Pass})
		g.Tests[0].Xfail = []api.Cond{c}
		if r := Run(0, g, someBoard, nil, someConf); r.Entry.Results[0].Verdict != api.PASS {
			t.Errorf("%+v", r.Entry.Results)
		}
	}
}

func TestMany(t *testing.T) { // DOC P1: more than a sound suite has
	g := api.Group{Tests: slices.Repeat([]api.Test{{Name: "t", Budget: 2, Steps: []api.Step{{Kind: api.Wait, N: 3}}}}, 5000)}
	r := hold(t, 0, g, someBoard, slices.Repeat(streams("1:a"), 6000), Conf{Buffer: 9, Fuel: 4000})
	if r.Sessions != 5000 || r.Fuel != 0 || r.Ticks != 8000 {
		t.Errorf("%d sessions, %d fuel, %d ticks", r.Sessions, r.Fuel, r.Ticks)
	}
	clauses := append(slices.Repeat([]api.Clause{{Kind: api.Exact, Text: "b"}}, 1000), api.Clause{Kind: api.Exact, Text: "a", Again: true}, api.Clause{Kind: api.Late})
	r = Run(0, oneTest(9, api.Step{Kind: api.Expect, N: 2, Clauses: clauses}, api.Step{Kind: api.Pass}), someBoard, streams("1:aa"), someConf)
	if got := fate(r.Entry.Results[0], r.Entry.Traces[0]); got != "PASS: 0 spawned 0, 1 matched 1000 a, 1 matched 1000 a, 3 late 1001, 3 passed" {
		t.Errorf("%s", got)
	}
}
