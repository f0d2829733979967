package suite

import (
	"slices"

	"colloquy/api"
)

// Same tells whether all fields of two suites are the same.
func Same(a, b api.Suite) bool {
	return a.Name == b.Name && slices.EqualFunc(a.Boards, b.Boards, sameBoard) && slices.EqualFunc(a.Groups, b.Groups, sameGroup)
}

func sameBoard(a, b api.Board) bool {
	return a.Name == b.Name && slices.Equal(a.Props, b.Props)
}

func sameGroup(a, b api.Group) bool {
	return a.Name == b.Name && slices.EqualFunc(a.Tests, b.Tests, sameTest)
}

func sameTest(a, b api.Test) bool {
	return a.Name == b.Name && a.Kind == b.Kind && a.Budget == b.Budget && sameConds(a.Xfail, b.Xfail) && sameSteps(a.Steps, b.Steps)
}

// pairs are lists that are still to be held against each other. They are no calls within calls: a suite that wasn't parsed may be deeper than those can go.
type pairs[T any] struct {
	lists [][2][]T
}

// push puts two lists to the others; false: they are of unlike lengths.
func (p *pairs[T]) push(a, b []T) bool {
	if len(a) != len(b) {
		return false
	}
	if len(a) > 0 {
		p.lists = append(p.lists, [2][]T{a, b})
	}
	return true
}

// same tells whether all lists are the same: likes holds two items against each other, and pushes the lists within them.
func (p *pairs[T]) same(likes func(a, b *T) bool) bool {
	for len(p.lists) > 0 {
		last := len(p.lists) - 1
		a, b := p.lists[last][0], p.lists[last][1]
		p.lists = p.lists[:last]
		for i := range a {
			if !likes(&a[i], &b[i]) {
				return false
			}
		}
	}
	return true
}

func sameConds(a, b []api.Cond) bool {
	var left pairs[api.Cond]
	return left.push(a, b) && left.same(func(a, b *api.Cond) bool {
		return a.Kind == b.Kind && a.Name == b.Name && a.Val == b.Val && left.push(a.Kids, b.Kids)
	})
}

func sameSteps(a, b []api.Step) bool {
	var left pairs[api.Step]
	sameClause := func(a, b api.Clause) bool {
		return a.Kind == b.Kind && a.Text == b.Text && a.Again == b.Again && left.push(a.Steps, b.Steps)
	}
	return left.push(a, b) && left.same(func(a, b *api.Step) bool {
		return a.Kind == b.Kind && a.N == b.N && a.Text == b.Text && a.Z == b.Z && a.Tol == b.Tol && left.push(a.Steps, b.Steps) && slices.EqualFunc(a.Clauses, b.Clauses, sameClause)
	})
}
