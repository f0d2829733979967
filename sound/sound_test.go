package sound

import (
	"math"
	"runtime/debug"
	"strconv"
	"strings"
	"testing"

	"colloquy/api"
	"colloquy/suite"
)

// good is a sound suite; its test 0 of group 0 has each kind of step and clause, and the numbers of its steps stand in its texts.
const good = `
suite "s"
board "b0" { p = "1" q = "" }
board "b1" { p = "1" }
group "g0" {
  test "t0" budget 10 xfail p = "1" xfail !(p != "2" & q = "") {
    send "0"
    expect 5 {
      exact "1" again { send "2" }
      glob "*.go" { loop 2 { send "4" } wait 5 }
      regex "a|b*" { }
      late { }
      eof { }
      death { }
      full again { expect 6 { late { fail } } }
    }
    loop 3 { near 1+2i 0.5 loop 0 { } }
    wait 11
    pass
  }
  test "t1" budget 1 untested
  test "t2" budget 1000000 { pass }
}
group "g1" { test "t0" unsupported test "t3" { send "0" pass } }
group "g2" { }
`

func parsed(t *testing.T, text string) api.Suite {
	t.Helper()
	s, flaw := suite.Parse(text)
	if flaw.Code != api.OK {
		t.Fatalf("%s: %v", text, flaw)
	}
	return s
}

// at is a fault: its code and, as far as they are given, its group, test and step.
func at(code api.Errno, numbers ...int) Fault {
	numbers = append(numbers, -1, -1, -1)
	return Fault{code, numbers[0], numbers[1], numbers[2]}
}

// change is what is done with a sound suite, and what is wrong with it then.
type change struct {
	do   func(s *api.Suite)
	want Fault
}

// hold does each of some changes with the good suite.
func hold(t *testing.T, changes []change) {
	t.Helper()
	for i, x := range changes {
		s := parsed(t, good)
		x.do(&s)
		if f := Check(s); f != x.want {
			t.Errorf("change %d: %v, not %v", i, f, x.want)
		}
	}
}

func many[T any](n int, of func(i int) T) []T {
	var out []T
	for i := range n {
		out = append(out, of(i))
	}
	return out
}

func boards(n int) []api.Board {
	return many(n, func(i int) api.Board { return api.Board{Name: strconv.Itoa(i)} })
}

func groups(n int) []api.Group {
	return many(n, func(i int) api.Group { return api.Group{Name: strconv.Itoa(i)} })
}

func tests(n int) []api.Test {
	return many(n, func(i int) api.Test { return api.Test{Name: strconv.Itoa(i), Budget: 1} })
}

func passes(n int) []api.Step {
	return many(n, func(int) api.Step { return api.Step{Kind: api.Pass} })
}

func clauses(n int) []api.Clause {
	return many(n, func(int) api.Clause { return api.Clause{Kind: api.Exact, Text: "x"} })
}

func conds(n int) []api.Cond {
	return many(n, func(int) api.Cond { return api.Cond{Kind: api.Is, Name: "a"} })
}

func loop(ss ...api.Step) api.Step {
	return api.Step{Kind: api.Loop, Steps: ss}
}

func expect(cs ...api.Clause) api.Step {
	return api.Step{Kind: api.Expect, Clauses: cs}
}

// deepCond is a condition that is so deep.
func deepCond(deep int) api.Cond {
	c := api.Cond{Kind: api.Is, Name: "a"}
	for range deep - 1 {
		c = api.Cond{Kind: api.Not, Kids: []api.Cond{c}}
	}
	return c
}

func firstTest(s *api.Suite) *api.Test {
	return &s.Groups[0].Tests[0]
}

// step is the good suite's step of a number.
func step(s *api.Suite, number int) *api.Step {
	ss := firstTest(s).Steps
	return []*api.Step{0: &ss[0], 1: &ss[1], 2: &ss[1].Clauses[0].Steps[0], 3: &ss[1].Clauses[1].Steps[0], 5: &ss[1].Clauses[1].Steps[1], 6: &ss[1].Clauses[6].Steps[0], 8: &ss[2], 9: &ss[2].Steps[0], 10: &ss[2].Steps[1], 11: &ss[3], 12: &ss[4]}[number]
}

func clause(s *api.Suite, number int) *api.Clause {
	return &step(s, 1).Clauses[number]
}

var (
	longest = strings.Repeat("\x00", 80)
	tooLong = strings.Repeat("n", 81)
)

func TestExamples(t *testing.T) { // P16.1
	if f := Check(api.Suite{Name: "s"}); f != at(api.ErrBound) {
		t.Errorf("without boards: %v", f)
	}
	if f := Check(parsed(t, `suite "s" board "b" { } group "g" { test "t" { } test "t" { } }`)); f != at(api.ErrSame, 0, 1) {
		t.Errorf("two tests of a name: %v", f)
	}
	if f := Check(parsed(t, good)); f != at(api.OK) {
		t.Errorf("the good one: %v", f)
	}
}

func TestSuite(t *testing.T) { // P16.1
	hold(t, []change{
		{func(s *api.Suite) { s.Name = "" }, at(api.ErrName)},
		{func(s *api.Suite) { s.Name = tooLong }, at(api.ErrName)},
		{func(s *api.Suite) { s.Name = longest }, at(api.OK)},
		{func(s *api.Suite) { s.Boards = nil }, at(api.ErrBound)},
		{func(s *api.Suite) { s.Boards = []api.Board{} }, at(api.ErrBound)},
		{func(s *api.Suite) { s.Boards = boards(1) }, at(api.OK)},
		{func(s *api.Suite) { s.Boards = boards(20) }, at(api.OK)},
		{func(s *api.Suite) { s.Boards = boards(21) }, at(api.ErrBound)},
		{func(s *api.Suite) { s.Groups = nil }, at(api.OK)},
		{func(s *api.Suite) { s.Groups = []api.Group{} }, at(api.OK)},
		{func(s *api.Suite) { s.Groups = groups(100) }, at(api.OK)},
		{func(s *api.Suite) { s.Groups = groups(101) }, at(api.ErrBound)},
	})
}

func TestBoards(t *testing.T) { // P16.1
	word := strings.Repeat("w", 40)
	hold(t, []change{
		{func(s *api.Suite) { s.Boards[1].Name = "" }, at(api.ErrName)},
		{func(s *api.Suite) { s.Boards[1].Name = tooLong }, at(api.ErrName)},
		{func(s *api.Suite) { s.Boards[1].Name = longest }, at(api.OK)},
		{func(s *api.Suite) { s.Boards[0].Props[1].Name = "" }, at(api.ErrName)},
		{func(s *api.Suite) { s.Boards[0].Props[1].Name = "a b" }, at(api.ErrName)},
		{func(s *api.Suite) { s.Boards[0].Props[1].Name = word }, at(api.OK)},
		{func(s *api.Suite) { s.Boards[0].Props[1].Name = word + "w" }, at(api.ErrName)},
		{func(s *api.Suite) { s.Boards[0].Props[1].Val = strings.Repeat("\xff", 100000) }, at(api.OK)},
		{func(s *api.Suite) { s.Boards[1].Name = "b0" }, at(api.ErrSame)},
		{func(s *api.Suite) { s.Boards[0].Props[1].Name = "p" }, at(api.ErrSame)},
		{func(s *api.Suite) { s.Boards[1].Props = nil }, at(api.OK)},
		{func(s *api.Suite) {
			s.Boards[1].Props = many(3000, func(i int) api.Prop { return api.Prop{Name: "p" + strconv.Itoa(i)} })
		}, at(api.OK)},
		{func(s *api.Suite) {
			s.Boards[1].Props = many(3000, func(i int) api.Prop { return api.Prop{Name: "p" + strconv.Itoa(i%2999)} })
		}, at(api.ErrSame)},
	})
}

func TestGroups(t *testing.T) { // P16.1
	hold(t, []change{
		{func(s *api.Suite) { s.Groups[0].Name = "" }, at(api.ErrName, 0)},
		{func(s *api.Suite) { s.Groups[2].Name = tooLong }, at(api.ErrName, 2)},
		{func(s *api.Suite) { s.Groups[2].Name = longest }, at(api.OK)},
		{func(s *api.Suite) { s.Groups[2].Name = "g0" }, at(api.ErrSame, 2)},
		{func(s *api.Suite) { s.Groups[0].Name = "g2" }, at(api.ErrSame, 2)},
		{func(s *api.Suite) { s.Groups[2].Name, s.Boards[0].Name = "s", "s" }, at(api.OK)},
		{func(s *api.Suite) { s.Groups[1].Tests = tests(50) }, at(api.OK)},
		{func(s *api.Suite) { s.Groups[1].Tests = tests(51) }, at(api.ErrBound, 1)},
		{func(s *api.Suite) { s.Groups[1].Tests = []api.Test{} }, at(api.OK)},
	})
}

func TestTests(t *testing.T) { // P16.1
	hold(t, []change{
		{func(s *api.Suite) { s.Groups[1].Tests[1].Name = "" }, at(api.ErrName, 1, 1)},
		{func(s *api.Suite) { s.Groups[0].Tests[1].Name = tooLong }, at(api.ErrName, 0, 1)},
		{func(s *api.Suite) { s.Groups[0].Tests[1].Name = longest }, at(api.OK)},
		{func(s *api.Suite) { s.Groups[0].Tests[2].Name = "t0" }, at(api.ErrSame, 0, 2)},
		{func(s *api.Suite) { s.Groups[1].Tests[1].Name = "t2" }, at(api.OK)},
		{func(s *api.Suite) { s.Groups[1].Tests[1].Name = "g1" }, at(api.OK)},
		{func(s *api.Suite) { firstTest(s).Budget = 0 }, at(api.ErrBound, 0, 0)},
		{func(s *api.Suite) { firstTest(s).Budget = -1 }, at(api.ErrBound, 0, 0)},
		{func(s *api.Suite) { firstTest(s).Budget = 1 }, at(api.OK)},
		{func(s *api.Suite) { firstTest(s).Budget = api.MaxTicks }, at(api.OK)},
		{func(s *api.Suite) { firstTest(s).Budget = api.MaxTicks + 1 }, at(api.ErrBound, 0, 0)},
		{func(s *api.Suite) { s.Groups[1].Tests[0].Budget = 0 }, at(api.ErrBound, 1, 0)}, // one that isn't run, too
		{func(s *api.Suite) { firstTest(s).Kind = -1 }, at(api.ErrBound, 0, 0)},
		{func(s *api.Suite) { firstTest(s).Kind = 3 }, at(api.ErrBound, 0, 0)},
		{func(s *api.Suite) { firstTest(s).Kind = api.Unsupported }, at(api.OK)},
		{func(s *api.Suite) { firstTest(s).Xfail = nil }, at(api.OK)},
		{func(s *api.Suite) { firstTest(s).Xfail = conds(5) }, at(api.OK)},
		{func(s *api.Suite) { firstTest(s).Xfail = conds(6) }, at(api.ErrBound, 0, 0)},
		{func(s *api.Suite) { s.Groups[0].Tests[1].Xfail = conds(6) }, at(api.ErrBound, 0, 1)},
		{func(s *api.Suite) { firstTest(s).Xfail[1] = api.Cond{} }, at(api.ErrName, 0, 0)},
		{func(s *api.Suite) { firstTest(s).Xfail[0].Name = "a b" }, at(api.ErrName, 0, 0)},
		{func(s *api.Suite) { firstTest(s).Xfail[1].Kids[0].Kids[1].Kids = conds(1) }, at(api.ErrName, 0, 0)},
		{func(s *api.Suite) { s.Groups[0].Tests[1].Xfail = make([]api.Cond, 1) }, at(api.ErrName, 0, 1)},
		{func(s *api.Suite) { firstTest(s).Xfail[1] = deepCond(8) }, at(api.OK)},
		{func(s *api.Suite) { firstTest(s).Xfail[1] = deepCond(9) }, at(api.ErrName, 0, 0)},
		{func(s *api.Suite) { firstTest(s).Xfail[1].Kids[0].Kids[0] = deepCond(6) }, at(api.OK)},
		{func(s *api.Suite) { firstTest(s).Xfail[1].Kids[0].Kids[0] = deepCond(7) }, at(api.ErrName, 0, 0)},
		{func(s *api.Suite) { firstTest(s).Xfail[1].Kids[0].Kids[1] = deepCond(7) }, at(api.ErrName, 0, 0)},
		{func(s *api.Suite) { firstTest(s).Steps = nil }, at(api.OK)},
		{func(s *api.Suite) { firstTest(s).Steps = []api.Step{} }, at(api.OK)},
	})
}

func TestSteps(t *testing.T) { // P16.1
	hold(t, []change{
		{func(s *api.Suite) { step(s, 0).Text = "" }, at(api.OK)},
		{func(s *api.Suite) { step(s, 0).Text = strings.Repeat("\x00", 4096) }, at(api.OK)},
		{func(s *api.Suite) { step(s, 0).Text = strings.Repeat("x", 4097) }, at(api.ErrBound, 0, 0, 0)},
		{func(s *api.Suite) { step(s, 2).Text = strings.Repeat("x", 4097) }, at(api.ErrBound, 0, 0, 2)},
		{func(s *api.Suite) { s.Groups[1].Tests[1].Steps[1].Kind = 9 }, at(api.ErrBound, 1, 1, 1)},
		{func(s *api.Suite) { step(s, 1).N = -1 }, at(api.ErrBound, 0, 0, 1)},
		{func(s *api.Suite) { step(s, 1).N = 0 }, at(api.OK)},
		{func(s *api.Suite) { step(s, 6).N = api.MaxTicks }, at(api.OK)},
		{func(s *api.Suite) { step(s, 6).N = api.MaxTicks + 1 }, at(api.ErrBound, 0, 0, 6)},
		{func(s *api.Suite) { step(s, 6).Clauses = nil }, at(api.ErrBound, 0, 0, 6)},
		{func(s *api.Suite) { step(s, 6).Clauses = []api.Clause{} }, at(api.ErrBound, 0, 0, 6)},
		{func(s *api.Suite) { step(s, 6).Clauses = clauses(1) }, at(api.OK)},
		{func(s *api.Suite) { step(s, 6).Clauses = clauses(12) }, at(api.OK)},
		{func(s *api.Suite) { step(s, 6).Clauses = clauses(13) }, at(api.ErrBound, 0, 0, 6)},
		{func(s *api.Suite) { step(s, 8).N = -1 }, at(api.ErrBound, 0, 0, 8)},
		{func(s *api.Suite) { step(s, 8).N = 0 }, at(api.OK)},
		{func(s *api.Suite) { step(s, 3).N = api.MaxLoop }, at(api.OK)},
		{func(s *api.Suite) { step(s, 3).N = api.MaxLoop + 1 }, at(api.ErrBound, 0, 0, 3)},
		{func(s *api.Suite) { step(s, 3).Steps = nil }, at(api.OK)},
		{func(s *api.Suite) { step(s, 11).N = -1 }, at(api.ErrBound, 0, 0, 11)},
		{func(s *api.Suite) { step(s, 11).N = 0 }, at(api.OK)},
		{func(s *api.Suite) { step(s, 5).N = api.MaxTicks }, at(api.OK)},
		{func(s *api.Suite) { step(s, 5).N = api.MaxTicks + 1 }, at(api.ErrBound, 0, 0, 5)},
	})
	for _, kind := range []int{math.MinInt, -1, 0, 8, math.MaxInt} {
		for _, number := range []int{0, 1, 3, 6, 12} {
			hold(t, []change{{func(s *api.Suite) { step(s, number).Kind = kind }, at(api.ErrBound, 0, 0, number)}})
		}
	}
}

func TestNumbers(t *testing.T) { // P16.1
	nan, inf, zero := math.NaN(), math.Inf(1), math.Copysign(0, -1)
	for _, z := range []complex128{complex(nan, 0), complex(0, nan), complex(inf, 0), complex(-inf, 0), complex(0, inf), complex(0, -inf)} {
		hold(t, []change{{func(s *api.Suite) { step(s, 9).Z = z }, at(api.ErrBound, 0, 0, 9)}})
	}
	for _, z := range []complex128{0, complex(zero, zero), complex(math.MaxFloat64, -math.MaxFloat64), 5e-324i} {
		hold(t, []change{{func(s *api.Suite) { step(s, 9).Z = z }, at(api.OK)}})
	}
	for _, tol := range []float64{nan, inf, -inf, -1, -5e-324} {
		hold(t, []change{{func(s *api.Suite) { step(s, 9).Tol = tol }, at(api.ErrBound, 0, 0, 9)}})
	}
	for _, tol := range []float64{0, zero, 5e-324, math.MaxFloat64} {
		hold(t, []change{{func(s *api.Suite) { step(s, 9).Tol = tol }, at(api.OK)}})
	}
}

func TestClauses(t *testing.T) { // P16.1
	wrong := map[int][]string{
		api.Exact: {strings.Repeat("x", 257)},
		api.Glob:  {"[", `\`, "[z-a]", strings.Repeat("x", 257)},
		api.Regex: {"(", ")", "*", `a\`, strings.Repeat("x", 257)},
	}
	for kind, texts := range wrong {
		for _, text := range texts {
			hold(t, []change{
				{func(s *api.Suite) { clause(s, 1).Kind, clause(s, 1).Text = kind, text }, at(api.ErrPattern, 0, 0, 1)},
				{func(s *api.Suite) { *clause(s, 6) = api.Clause{Kind: kind, Text: text, Again: true} }, at(api.ErrPattern, 0, 0, 1)},
				{func(s *api.Suite) { step(s, 6).Clauses[0] = api.Clause{Kind: kind, Text: text} }, at(api.ErrPattern, 0, 0, 6)},
			})
		}
		hold(t, []change{
			{func(s *api.Suite) {
				*clause(s, 1) = api.Clause{Kind: kind, Text: strings.Repeat("x", 256), Again: true}
			}, at(api.OK)},
			{func(s *api.Suite) { *clause(s, 6) = *clause(s, kind-1) }, at(api.OK)}, // there may be two of these
			{func(s *api.Suite) { clause(s, kind-1).Text = "" }, at(api.OK)},
		})
	}
	for kind := api.Late; kind <= api.Full; kind++ {
		own := kind - 1 // its clause
		again := at(api.ErrClause, 0, 0, 1)
		if kind == api.Full {
			again = at(api.OK)
		}
		hold(t, []change{
			{func(s *api.Suite) { clause(s, 0).Kind = kind }, at(api.ErrClause, 0, 0, 1)},
			{func(s *api.Suite) { clause(s, 0).Kind, clause(s, 0).Again = kind, false }, at(api.ErrClause, 0, 0, 1)},
			{func(s *api.Suite) { clause(s, 0).Kind, clause(s, own).Kind = kind, api.Exact }, again},
			{func(s *api.Suite) { clause(s, own).Again = true }, again},
			{func(s *api.Suite) { clause(s, own).Again = false }, at(api.OK)},
			{func(s *api.Suite) { clause(s, own).Text = strings.Repeat("(", 5000) }, at(api.OK)}, // no pattern
			{func(s *api.Suite) { step(s, 6).Clauses = []api.Clause{{Kind: kind}} }, at(api.OK)},
			{func(s *api.Suite) { step(s, 6).Clauses = []api.Clause{{Kind: kind}, {Kind: kind}} }, at(api.ErrClause, 0, 0, 6)},
		})
	}
	for _, kind := range []int{math.MinInt, -1, 0, 8, math.MaxInt} {
		hold(t, []change{
			{func(s *api.Suite) { clause(s, 0).Kind = kind }, at(api.ErrBound, 0, 0, 1)},
			{func(s *api.Suite) { clause(s, 6).Kind = kind }, at(api.ErrBound, 0, 0, 1)},
			{func(s *api.Suite) { step(s, 6).Clauses[0].Kind = kind }, at(api.ErrBound, 0, 0, 6)},
		})
	}
}

func TestNotRun(t *testing.T) { // P16.1: steps of a test that isn't run don't matter
	bad := []api.Step{{Kind: 99}, {Kind: api.Expect}, loop(loop(loop(loop(loop(loop(loop())))))), {Kind: api.Wait, N: -1}}
	for _, ss := range [][]api.Step{bad, passes(201), {loop(passes(5000)...)}} {
		hold(t, []change{
			{func(s *api.Suite) { s.Groups[0].Tests[1].Steps = ss }, at(api.OK)},
			{func(s *api.Suite) { s.Groups[1].Tests[0].Steps = ss }, at(api.OK)},
			{func(s *api.Suite) { firstTest(s).Steps, firstTest(s).Kind = ss, api.Untested }, at(api.OK)},
		})
		if f := Check(withSteps(ss)); f.Code != api.ErrBound {
			t.Errorf("%v", f)
		}
	}
}

// What a kind of step doesn't have by the document doesn't matter.
func TestOtherFields(t *testing.T) { // P16.1
	odd := api.Step{N: -1, Text: strings.Repeat("x", 4097), Z: complex(math.NaN(), 0), Tol: -1, Clauses: []api.Clause{{Kind: 99}}, Steps: []api.Step{{Kind: 99}}}
	for kind := api.Send; kind <= api.Wait; kind++ {
		s := odd
		s.Kind = kind
		switch kind {
		case api.Send:
			s.Text = "x"
		case api.Expect:
			s.N, s.Clauses = 1, clauses(1)
		case api.Loop:
			s.N, s.Steps = 1, passes(1)
		case api.Near:
			s.Z, s.Tol = 1, 1
		case api.Wait:
			s.N = 1
		}
		if f := Check(withSteps([]api.Step{s})); f != at(api.OK) {
			t.Errorf("kind %d: %v", kind, f)
		}
	}
}

// withSteps is a suite of one test of these steps.
func withSteps(ss []api.Step) api.Suite {
	return api.Suite{Name: "s", Boards: boards(1), Groups: []api.Group{{Name: "g", Tests: []api.Test{{Name: "t", Budget: 1, Steps: ss}}}}}
}

func TestManySteps(t *testing.T) { // P16.1
	bad := api.Step{Kind: api.Wait, N: -1}
	late := func(ss ...api.Step) api.Clause { return api.Clause{Kind: api.Late, Steps: ss} }
	full := func(ss ...api.Step) api.Clause { return api.Clause{Kind: api.Full, Steps: ss} }
	then := func(n int, ss ...api.Step) []api.Step { return append(passes(n), ss...) }
	for i, x := range []struct {
		ss   []api.Step
		want Fault
	}{
		{passes(200), at(api.OK)},
		{passes(201), at(api.ErrBound, 0, 0, 200)},
		{passes(100000), at(api.ErrBound, 0, 0, 200)},
		{then(198, loop(passes(1)...)), at(api.OK)},
		{then(199, loop(passes(1)...)), at(api.ErrBound, 0, 0, 200)},
		{append([]api.Step{loop(passes(198)...)}, passes(1)...), at(api.OK)},
		{append([]api.Step{loop(passes(198)...)}, passes(2)...), at(api.ErrBound, 0, 0, 200)},
		{[]api.Step{expect(late(passes(99)...), full(passes(100)...))}, at(api.OK)},
		{[]api.Step{expect(late(passes(99)...), full(passes(101)...))}, at(api.ErrBound, 0, 0, 200)},
		{then(196, expect(late(expect(full(loop()))), full(passes(1)...))), at(api.OK)},
		{then(197, expect(late(expect(full(loop()))), full(passes(1)...))), at(api.ErrBound, 0, 0, 200)},
		{then(195, loop(loop(loop(loop(loop(passes(1)...)))))), at(api.ErrBound, 0, 0, 200)},
		{then(199, bad), at(api.ErrBound, 0, 0, 199)},
		{append([]api.Step{bad}, passes(300)...), at(api.ErrBound, 0, 0, 0)},
		{append([]api.Step{expect(late(bad))}, passes(300)...), at(api.ErrBound, 0, 0, 1)},
		{then(200, bad), at(api.ErrBound, 0, 0, 200)},
		{then(199, expect(api.Clause{Kind: api.Regex, Text: "("})), at(api.ErrPattern, 0, 0, 199)},
		{then(200, expect(api.Clause{Kind: api.Regex, Text: "("})), at(api.ErrBound, 0, 0, 200)},
		{then(199, expect(late(), late(passes(9)...))), at(api.ErrClause, 0, 0, 199)},
	} {
		if f := Check(withSteps(x.ss)); f != x.want {
			t.Errorf("%d: %v, not %v", i, f, x.want)
		}
	}
	// Each test has steps of its own.
	s := parsed(t, good)
	s.Groups[0].Tests[0].Steps, s.Groups[0].Tests[2].Steps, s.Groups[1].Tests[1].Steps = passes(200), passes(200), passes(201)
	if f := Check(s); f != at(api.ErrBound, 1, 1, 200) {
		t.Errorf("%v", f)
	}
}

func TestDeepSteps(t *testing.T) { // P16.1: each way to go in, with a step ahead of each
	for ways := range 1 << 8 {
		ss := passes(1)
		deep := 1
		want := at(api.OK)
		for i := range 8 {
			inExpect := ways>>i&1 == 1
			switch {
			case want.Code != api.OK:
			case inExpect && deep > 4 || !inExpect && deep > 5:
				want = at(api.ErrBound, 0, 0, 2*i+1)
			case inExpect:
				deep += 2
			default:
				deep++
			}
		}
		for i := 7; i >= 0; i-- {
			inner := loop(ss...)
			if ways>>i&1 == 1 {
				inner = expect(api.Clause{Kind: api.Late}, api.Clause{Kind: api.Full, Steps: ss})
			}
			ss = append(passes(1), inner)
		}
		if f := Check(withSteps(ss)); f != want {
			t.Errorf("%b: %v, not %v", ways, f, want)
		}
	}
	for _, x := range []struct {
		ss   []api.Step
		want Fault
	}{
		{[]api.Step{loop(loop(loop(loop(loop(passes(1)...)))))}, at(api.OK)},
		{[]api.Step{loop(loop(loop(loop(loop(loop())))))}, at(api.ErrBound, 0, 0, 5)},
		{[]api.Step{loop(loop(loop(expect(api.Clause{Kind: api.Late, Steps: passes(1)}))))}, at(api.OK)},
		{[]api.Step{loop(loop(loop(loop(expect(api.Clause{Kind: api.Late})))))}, at(api.ErrBound, 0, 0, 4)},
	} {
		if f := Check(withSteps(x.ss)); f != x.want {
			t.Errorf("%v, not %v", f, x.want)
		}
	}
}

func TestCount(t *testing.T) { // P16.1
	in := func(n int) []api.Step {
		var ss []api.Step
		for i := range n {
			if i%2 == 0 {
				ss = []api.Step{loop(ss...)}
			} else {
				ss = []api.Step{expect(api.Clause{}, api.Clause{Steps: ss}, api.Clause{})}
			}
		}
		return ss
	}
	kindless := []api.Step{{Steps: passes(3)}, {Kind: 99, Clauses: []api.Clause{{Kind: 99, Steps: passes(4)}}}, {Kind: api.Pass, Steps: passes(2), Clauses: []api.Clause{{Steps: passes(1)}}}}
	for i, x := range []struct {
		ss   []api.Step
		want int
	}{
		{nil, 0},
		{[]api.Step{}, 0},
		{make([]api.Step, 1), 1},
		{passes(200), 200},
		{passes(1000), 1000},
		{passes(1001), 1001},
		{passes(1002), 1001},
		{make([]api.Step, 1000000), 1001},
		{parsed(t, good).Groups[0].Tests[0].Steps, 13},
		{[]api.Step{loop(passes(999)...)}, 1000},
		{[]api.Step{loop(passes(1000)...)}, 1001},
		{append([]api.Step{loop(passes(500)...)}, passes(499)...), 1000},
		{append([]api.Step{loop(passes(500)...)}, passes(500)...), 1001},
		{append([]api.Step{loop(passes(5000)...)}, passes(5000)...), 1001},
		{[]api.Step{expect(api.Clause{Steps: passes(499)}, api.Clause{}, api.Clause{Steps: passes(500)})}, 1000},
		{[]api.Step{expect(api.Clause{Steps: passes(500)}, api.Clause{}, api.Clause{Steps: passes(500)})}, 1001},
		{[]api.Step{expect(make([]api.Clause, 1000000)...)}, 1},
		{in(1000), 1000},
		{in(1001), 1001},
		{in(100000), 1001},
		{kindless, 13},
	} {
		if n := Count(x.ss); n != x.want {
			t.Errorf("%d: %d, not %d", i, n, x.want)
		}
	}
}

func TestWhatHoldsItself(t *testing.T) { // P1: every call ends
	defer debug.SetMaxStack(debug.SetMaxStack(4 << 20))
	ss := make([]api.Step, 2)
	ss[0] = loop(ss...)
	ss[1] = expect(api.Clause{Kind: api.Late, Steps: ss})
	ss[0].Steps = ss
	if n := Count(ss); n != 1001 {
		t.Errorf("%d", n)
	}
	if f := Check(withSteps(ss)); f != at(api.ErrBound, 0, 0, 5) {
		t.Errorf("%v", f)
	}
	kids := make([]api.Cond, 3)
	for i := range kids {
		kids[i] = api.Cond{Kind: api.And, Kids: kids}
	}
	hold(t, []change{
		{func(s *api.Suite) { firstTest(s).Xfail = kids }, at(api.ErrName, 0, 0)},
		{func(s *api.Suite) { firstTest(s).Xfail[0] = deepCond(1000000) }, at(api.ErrName, 0, 0)},
	})
}
