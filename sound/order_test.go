package sound

import (
	"math"
	"slices"
	"strings"
	"testing"

	"colloquy/api"
)

// inOrder are faults in the document's order. Each can be made where one behind it is there already, and leaves the next one as it is.
func inOrder() []change {
	bad := api.Clause{Kind: api.Regex, Text: "("}
	return []change{
		{func(s *api.Suite) { s.Name = "" }, at(api.ErrName)},
		{func(s *api.Suite) { s.Boards = append(s.Boards, boards(19)...) }, at(api.ErrBound)},
		{func(s *api.Suite) { s.Boards[0].Name = "" }, at(api.ErrName)},
		{func(s *api.Suite) { s.Boards[0].Props[1].Name = "1" }, at(api.ErrName)},
		{func(s *api.Suite) { s.Boards[0].Props = append(s.Boards[0].Props, s.Boards[0].Props[0]) }, at(api.ErrSame)},
		{func(s *api.Suite) { s.Boards[1].Name = tooLong }, at(api.ErrName)},
		{func(s *api.Suite) { s.Boards[1].Props[0].Name = "-" }, at(api.ErrName)},
		{func(s *api.Suite) { s.Boards = append(s.Boards, api.Board{Name: "b1"}) }, at(api.ErrSame)},
		{func(s *api.Suite) { s.Groups[0].Name = "" }, at(api.ErrName, 0)},
		{func(s *api.Suite) { s.Groups[0].Tests = append(s.Groups[0].Tests, tests(48)...) }, at(api.ErrBound, 0)},
		{func(s *api.Suite) { firstTest(s).Name = "" }, at(api.ErrName, 0, 0)},
		{func(s *api.Suite) { firstTest(s).Budget = 0 }, at(api.ErrBound, 0, 0)},
		{func(s *api.Suite) { firstTest(s).Xfail = append(firstTest(s).Xfail, make([]api.Cond, 4)...) }, at(api.ErrBound, 0, 0)},
		{func(s *api.Suite) { firstTest(s).Xfail[0].Name = "1" }, at(api.ErrName, 0, 0)},
		{func(s *api.Suite) { firstTest(s).Xfail[1] = deepCond(9) }, at(api.ErrName, 0, 0)},
		{func(s *api.Suite) { step(s, 0).Text = strings.Repeat("x", 4097) }, at(api.ErrBound, 0, 0, 0)},
		{func(s *api.Suite) { step(s, 1).N = -1 }, at(api.ErrBound, 0, 0, 1)},
		{func(s *api.Suite) { step(s, 1).Clauses = append(step(s, 1).Clauses, clauses(6)...) }, at(api.ErrBound, 0, 0, 1)},
		{func(s *api.Suite) { clause(s, 0).Kind = 0 }, at(api.ErrBound, 0, 0, 1)},
		{func(s *api.Suite) { clause(s, 1).Text = "[" }, at(api.ErrPattern, 0, 0, 1)},
		{func(s *api.Suite) { clause(s, 3).Again = true }, at(api.ErrClause, 0, 0, 1)},
		{func(s *api.Suite) { clause(s, 4).Kind = 8 }, at(api.ErrBound, 0, 0, 1)},
		{func(s *api.Suite) { clause(s, 5).Kind = api.Late }, at(api.ErrClause, 0, 0, 1)},
		{func(s *api.Suite) { step(s, 1).Clauses = append(step(s, 1).Clauses, bad) }, at(api.ErrPattern, 0, 0, 1)},
		{func(s *api.Suite) { step(s, 2).Kind = 0 }, at(api.ErrBound, 0, 0, 2)},
		{func(s *api.Suite) { step(s, 3).N = 51 }, at(api.ErrBound, 0, 0, 3)},
		{func(s *api.Suite) { step(s, 3).Steps[0].Kind = -1 }, at(api.ErrBound, 0, 0, 4)},
		{func(s *api.Suite) { step(s, 5).N = -1 }, at(api.ErrBound, 0, 0, 5)},
		{func(s *api.Suite) { step(s, 6).Clauses[0].Again = true }, at(api.ErrClause, 0, 0, 6)},
		{func(s *api.Suite) { step(s, 6).Clauses[0].Steps[0].Kind = 8 }, at(api.ErrBound, 0, 0, 7)},
		{func(s *api.Suite) { step(s, 8).N = -1 }, at(api.ErrBound, 0, 0, 8)},
		{func(s *api.Suite) { step(s, 9).Z = complex(0, math.NaN()) }, at(api.ErrBound, 0, 0, 9)},
		{func(s *api.Suite) { step(s, 10).Steps = []api.Step{{Kind: 8}} }, at(api.ErrBound, 0, 0, 11)},
		{func(s *api.Suite) { s.Groups[0].Tests[1].Name = "" }, at(api.ErrName, 0, 1)},
		{func(s *api.Suite) { s.Groups[0].Tests[1].Xfail = make([]api.Cond, 1) }, at(api.ErrName, 0, 1)},
		{func(s *api.Suite) { s.Groups[0].Tests[2].Name = "t1" }, at(api.ErrSame, 0, 2)},
		{func(s *api.Suite) { s.Groups[0].Tests[2].Kind = 3 }, at(api.ErrBound, 0, 2)},
		{func(s *api.Suite) { s.Groups[1].Name = "g0" }, at(api.ErrSame, 1)},
		{func(s *api.Suite) { s.Groups[1].Tests = append(s.Groups[1].Tests, tests(49)...) }, at(api.ErrBound, 1)},
		{func(s *api.Suite) { s.Groups[1].Tests[0].Name = "" }, at(api.ErrName, 1, 0)},
		{func(s *api.Suite) { s.Groups[1].Tests[0].Budget = -1 }, at(api.ErrBound, 1, 0)},
		{func(s *api.Suite) { s.Groups[1].Tests[1].Xfail = append(s.Groups[1].Tests[1].Xfail, conds(6)...) }, at(api.ErrBound, 1, 1)},
		{func(s *api.Suite) { s.Groups[1].Tests[1].Xfail = make([]api.Cond, 1) }, at(api.ErrName, 1, 1)},
		{func(s *api.Suite) { s.Groups[1].Tests[1].Steps[0].Kind = 0 }, at(api.ErrBound, 1, 1, 0)},
		{func(s *api.Suite) { s.Groups[1].Tests[1].Steps = append(s.Groups[1].Tests[1].Steps, passes(199)...) }, at(api.ErrBound, 1, 1, 200)},
		{func(s *api.Suite) { s.Groups[2].Name = "g0" }, at(api.ErrSame, 2)},
	}
}

func TestTheFirstIsTold(t *testing.T) { // P16.1, P1
	all := inOrder()
	hold(t, all)
	for i, first := range all {
		for j := i + 1; j < len(all); j++ {
			s := parsed(t, good)
			all[j].do(&s)
			first.do(&s)
			if f := Check(s); f != first.want {
				t.Errorf("changes %d and %d: %v, not %v", i, j, f, first.want)
			}
			there := slices.ContainsFunc(faults(s).all, func(x told) bool { return x.f == all[j].want })
			if !there && j == i+1 {
				t.Errorf("change %d leaves nothing of %d", i, j)
			}
		}
	}
}

// What is wrong in two ways at one place.
func TestTwoAtOnePlace(t *testing.T) { // P16.1, P1
	over := strings.Repeat("x", 4097)
	hold(t, []change{
		{func(s *api.Suite) { s.Name, s.Boards = "", nil }, at(api.ErrName)},
		{func(s *api.Suite) { s.Name, s.Groups = "", groups(101) }, at(api.ErrName)},
		{func(s *api.Suite) { s.Boards[0].Name, s.Boards = "", boards(21) }, at(api.ErrBound)},
		{func(s *api.Suite) { s.Boards[1].Name, s.Boards[1].Props[0].Name = "b0", "" }, at(api.ErrName)},
		{func(s *api.Suite) { s.Boards[0].Props = []api.Prop{{Name: "p"}, {Name: "p"}, {Name: "1"}} }, at(api.ErrName)},
		{func(s *api.Suite) { s.Boards[0].Props = []api.Prop{{Name: "1"}, {Name: "1"}} }, at(api.ErrName)},
		{func(s *api.Suite) { s.Boards[0].Name, s.Boards[1].Name = "", "" }, at(api.ErrName)},
		{func(s *api.Suite) { s.Groups[1].Name, s.Groups[2].Name = "", "" }, at(api.ErrName, 1)},
		{func(s *api.Suite) { s.Groups[1].Name, s.Groups[1].Tests = "g0", tests(51) }, at(api.ErrSame, 1)},
		{func(s *api.Suite) { s.Groups[1].Name, s.Groups[1].Tests = "", tests(51) }, at(api.ErrName, 1)},
		{func(s *api.Suite) { s.Groups[1].Tests = make([]api.Test, 51) }, at(api.ErrBound, 1)},
		{func(s *api.Suite) { s.Groups[0].Tests[1] = api.Test{Name: "t0", Kind: 9} }, at(api.ErrSame, 0, 1)},
		{func(s *api.Suite) { s.Groups[0].Tests[1] = api.Test{Kind: 9} }, at(api.ErrName, 0, 1)},
		{func(s *api.Suite) { firstTest(s).Xfail = make([]api.Cond, 6) }, at(api.ErrBound, 0, 0)},
		{func(s *api.Suite) { firstTest(s).Xfail, firstTest(s).Kind = make([]api.Cond, 1), 3 }, at(api.ErrBound, 0, 0)},
		{func(s *api.Suite) { firstTest(s).Xfail, firstTest(s).Budget = make([]api.Cond, 1), 0 }, at(api.ErrBound, 0, 0)},
		{func(s *api.Suite) { firstTest(s).Xfail, step(s, 0).Text = make([]api.Cond, 1), over }, at(api.ErrName, 0, 0)},
		{func(s *api.Suite) { clause(s, 0).Text, step(s, 1).N = "(", -1 }, at(api.ErrBound, 0, 0, 1)},
		{func(s *api.Suite) { clause(s, 0).Kind, clause(s, 1).Text = 0, "[" }, at(api.ErrBound, 0, 0, 1)},
		{func(s *api.Suite) { clause(s, 3).Again, clause(s, 2).Text = true, "(" }, at(api.ErrPattern, 0, 0, 1)},
		{func(s *api.Suite) { clause(s, 0).Kind, clause(s, 2).Text = api.Eof, "(" }, at(api.ErrClause, 0, 0, 1)},
		{func(s *api.Suite) { clause(s, 6).Kind, step(s, 2).Text = 8, over }, at(api.ErrBound, 0, 0, 1)}, // all clauses are ahead of what stands in one
		{func(s *api.Suite) { step(s, 8).N, step(s, 9).Tol = 51, -1 }, at(api.ErrBound, 0, 0, 8)},
		{func(s *api.Suite) { s.Groups[0].Tests[1].Name, s.Groups[1].Name = "t0", "g0" }, at(api.ErrSame, 0, 1)},
		{func(s *api.Suite) { step(s, 12).Kind, s.Groups[0].Tests[1].Name = 0, "" }, at(api.ErrBound, 0, 0, 12)},
	})
}
