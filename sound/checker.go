package sound

import (
	"slices"

	"colloquy/api"
	"colloquy/cnum"
	"colloquy/cond"
	"colloquy/name"
	"colloquy/pat"
)

const (
	maxBoards = 20
	maxConds  = 5    // of a test
	maxCond   = 8    // how deep a condition may be
	maxSend   = 4096 // bytes
)

// checker goes through a suite. It panics with the first Fault that it comes to.
type checker struct {
	at Fault // where it is
}

// place is a place in a test, ahead of its steps.
func place(group, test int) Fault {
	return Fault{Group: group, Test: test, Step: -1}
}

// must refuses with an error where something that must be isn't so.
func (c *checker) must(is bool, code api.Errno) {
	if !is {
		f := c.at
		f.Code = code
		panic(f)
	}
}

func (c *checker) bound(is bool) {
	c.must(is, api.ErrBound)
}

func (c *checker) suite(s api.Suite) {
	c.must(name.Right(s.Name), api.ErrName)
	c.bound(len(s.Groups) <= api.MaxGroups && isFrom(1, maxBoards, len(s.Boards)))
	c.boards(s.Boards)
	c.groups(s.Groups)
}

func (c *checker) boards(bs []api.Board) {
	ahead := names{}
	for _, b := range bs {
		c.must(name.Right(b.Name) && !slices.ContainsFunc(b.Props, isNameless), api.ErrName)
		c.must(ahead.take(b.Name) && areUnlike(b.Props), api.ErrSame)
	}
}

func (c *checker) groups(gs []api.Group) {
	ahead := names{}
	for i, g := range gs {
		c.at = place(i, -1)
		c.must(name.Right(g.Name), api.ErrName)
		c.must(ahead.take(g.Name), api.ErrSame)
		c.bound(len(g.Tests) <= api.MaxTests)
		c.tests(g.Tests)
	}
}

func (c *checker) tests(ts []api.Test) {
	ahead := names{}
	for i, t := range ts {
		c.at = place(c.at.Group, i)
		c.must(name.Right(t.Name), api.ErrName)
		c.must(ahead.take(t.Name), api.ErrSame)
		c.bound(isFrom(1, api.MaxTicks, t.Budget) && isFrom(api.Run, api.Unsupported, t.Kind) && len(t.Xfail) <= maxConds)
		c.must(!slices.ContainsFunc(t.Xfail, isWrong), api.ErrName)
		if t.Kind == api.Run {
			c.steps(t.Steps, 1)
		}
	}
}

// steps goes through steps that are so deep: at most MaxDepth, since what would have deeper ones within it is refused itself.
func (c *checker) steps(ss []api.Step, deep int) {
	for _, s := range ss {
		c.at.Step++
		c.bound(c.at.Step < api.MaxSteps)
		c.step(s, deep)
	}
}

// step goes through a step, then through those within it.
func (c *checker) step(s api.Step, deep int) {
	switch s.Kind {
	case api.Send:
		c.bound(len(s.Text) <= maxSend)
	case api.Expect:
		c.bound(deep <= api.MaxDepth-2 && isFrom(0, api.MaxTicks, s.N) && isFrom(1, api.MaxClauses, len(s.Clauses)))
		c.clauses(s.Clauses)
		for _, one := range s.Clauses {
			c.steps(one.Steps, deep+2)
		}
	case api.Loop:
		c.bound(deep <= api.MaxDepth-1 && isFrom(0, api.MaxLoop, s.N))
		c.steps(s.Steps, deep+1)
	case api.Near:
		c.bound(cnum.Right(s.Z) && cnum.Right(complex(s.Tol, 0)) && s.Tol >= 0)
	case api.Pass, api.Fail:
	case api.Wait:
		c.bound(isFrom(0, api.MaxTicks, s.N))
	default:
		c.bound(false)
	}
}

func (c *checker) clauses(cs []api.Clause) {
	for i, one := range cs {
		single := !slices.ContainsFunc(cs[:i], func(ahead api.Clause) bool { return ahead.Kind == one.Kind })
		switch one.Kind {
		case api.Exact, api.Glob, api.Regex:
			_, code, _ := pat.Compile(one.Kind, one.Text)
			c.must(code == api.OK, api.ErrPattern)
		case api.Late, api.Eof, api.Death:
			c.must(single && !one.Again, api.ErrClause) // again it would come at once
		case api.Full:
			c.must(single, api.ErrClause)
		default:
			c.bound(false)
		}
	}
}

// names are those that stand ahead.
type names map[string]struct{}

// take puts a name to the others, and tells whether it wasn't one of them.
func (ns names) take(one string) bool {
	_, there := ns[one]
	ns[one] = struct{}{}
	return !there
}

func isNameless(p api.Prop) bool {
	return !name.Word(p.Name)
}

// areUnlike tells whether no two properties have one name.
func areUnlike(ps []api.Prop) bool {
	ahead := names{}
	for _, p := range ps {
		if !ahead.take(p.Name) {
			return false
		}
	}
	return true
}

func isWrong(c api.Cond) bool {
	return isDeeper(c, maxCond) || !cond.Right(c)
}

// isDeeper tells whether a condition is more than so deep.
func isDeeper(c api.Cond, most int) bool {
	return most == 0 || slices.ContainsFunc(c.Kids, func(kid api.Cond) bool { return isDeeper(kid, most-1) })
}

func isFrom(least, most, n int) bool {
	return n >= least && n <= most
}
