package cond

import (
	"math/rand"
	"slices"
	"testing"

	"colloquy/api"
)

// roomy is a condition whose lists have memory of their own, with room behind them that holds something.
func roomy(c api.Cond) api.Cond {
	kids := make([]api.Cond, len(c.Kids), len(c.Kids)+2)
	for i, kid := range c.Kids {
		kids[i] = roomy(kid)
	}
	for i := range 2 {
		kids[:cap(kids)][len(kids)+i] = is("room", "behind")
	}
	return api.Cond{Kind: c.Kind, Name: c.Name, Val: c.Val, Kids: kids}
}

// rooms are where all lists of a condition have their kids, and the room behind.
func rooms(c api.Cond) []*api.Cond {
	var out []*api.Cond
	whole := c.Kids[:cap(c.Kids)]
	for i := range whole {
		out = append(out, &whole[i])
	}
	for _, kid := range c.Kids {
		out = append(out, rooms(kid)...)
	}
	return out
}

// over writes over all lists of a condition.
func over(c api.Cond) {
	for _, at := range rooms(c) {
		*at = api.Cond{Kind: -1, Name: "over", Kids: []api.Cond{{}}}
	}
}

// roomStays tells whether behind all lists of a roomy condition stands what stood there.
func roomStays(c api.Cond) bool {
	for _, n := range nodes(c) {
		for _, behind := range n.c.Kids[len(n.c.Kids):cap(n.c.Kids)] {
			if !same(behind, is("room", "behind")) {
				return false
			}
		}
	}
	return true
}

// manyConditions are conditions of which each kind stands in each.
func manyConditions() []api.Cond {
	r := rand.New(rand.NewSource(3))
	some := []api.Cond{is("a", "1"), not(of(api.Or, is("a", "1"), is("b", "2"))), of(api.And, of(api.And, is("a", ""), is("b", "")), not(of(api.Or, is("c", ""), of(api.And, is("d", ""), is("e", ""))))), {}, of(api.And, is("a", ""))}
	for range 1000 {
		some = append(some, anyRight(r, 1+r.Intn(6)))
	}
	return some
}

func TestArgumentsStay(t *testing.T) { // P12.3
	for _, c := range manyConditions() {
		arg := roomy(c)
		b := board("a", "1", "b", "", "a", "2", "room", "x")
		b.Props = b.Props[:3]
		list := []api.Cond{arg, arg, is("room", "behind")}[:2]
		Right(arg)
		Holds(arg, b)
		Any(list, b)
		Names(arg)
		over(Simple(arg))
		if !same(arg, c) || !roomStays(arg) {
			t.Fatalf("%v has become %v", c, arg)
		}
		if !same(list[0], c) || !same(list[1], c) || !same(list[:3][2], is("room", "behind")) {
			t.Fatalf("the list of %v has changed", c)
		}
		if !slices.Equal(b.Props[:4], board("a", "1", "b", "", "a", "2", "room", "x").Props) || b.Name != "b" {
			t.Fatalf("the board has become %v", b)
		}
	}
}

func TestAnswersAreNew(t *testing.T) { // P12.3
	for _, c := range manyConditions() {
		arg := roomy(c)
		s, again, names := Simple(arg), Simple(arg), Names(arg)
		want, wantNames := plainSimple(c), plainNames(c)
		if !Right(c) {
			want, wantNames = api.Cond{}, nil
		}
		seen := map[*api.Cond]bool{}
		for _, at := range slices.Concat(rooms(arg), rooms(s), rooms(again)) {
			if seen[at] {
				t.Fatalf("of %v two lists share memory", c)
			}
			seen[at] = true
		}
		over(again)
		over(arg)
		if !same(s, want) || !slices.Equal(names, wantNames) {
			t.Fatalf("of %v, which was written over, the answers are %v, %v", c, s, names)
		}
	}
}

func TestNamesAreNew(t *testing.T) { // P12.3
	c := of(api.Or, is("b", ""), is("a", ""), is("c", ""))
	for range 3 {
		one, two := Names(c), Names(c)
		for i := range one[:cap(one)] {
			one[:cap(one)][i] = "over"
		}
		if !slices.Equal(two, []string{"a", "b", "c"}) || !slices.Equal(Names(c), two) {
			t.Fatalf("%v, %v", two, Names(c))
		}
	}
}
