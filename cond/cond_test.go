package cond

import (
	"fmt"
	"math"
	"math/rand"
	"slices"
	"strings"
	"testing"

	"colloquy/api"
)

// someBoards are boards of which each condition in these tests holds of some and not of others.
var someBoards = boards([]string{"a", "b"}, []string{"1", "2"})

// check holds what is told of a condition against the document's words.
func check(t *testing.T, c api.Cond, bs []api.Board) {
	t.Helper()
	right := plainRight(c)
	if Right(c) != right {
		t.Fatalf("Right(%v) isn't %v", c, right)
	}
	if !right {
		checkWrong(t, c, bs)
		return
	}
	for _, b := range bs {
		want := plainHolds(c, b)
		if Holds(c, b) != want || Any([]api.Cond{c}, b) != want {
			t.Fatalf("%v holds of %v: %v, %v, not %v", c, b, Holds(c, b), Any([]api.Cond{c}, b), want)
		}
	}
	if names := Names(c); !slices.Equal(names, plainNames(c)) {
		t.Fatalf("Names(%v) = %v", c, names)
	}
	checkSimple(t, c, bs)
}

// checkWrong: of a condition that isn't right nothing is told.
func checkWrong(t *testing.T, c api.Cond, bs []api.Board) {
	t.Helper()
	for _, b := range bs {
		if Holds(c, b) || Any([]api.Cond{c, c}, b) {
			t.Fatalf("%v holds of %v", c, b)
		}
	}
	if names, s := Names(c), Simple(c); len(names) != 0 || !same(s, api.Cond{}) {
		t.Fatalf("of %v: names %v, simple %v", c, names, s)
	}
}

// checkSimple: a right condition's simple one is right, without Not, holds of the same boards, and is its own.
func checkSimple(t *testing.T, c api.Cond, bs []api.Board) {
	t.Helper()
	s := Simple(c)
	if !same(s, plainSimple(c)) || !plainRight(s) || !same(Simple(s), s) {
		t.Fatalf("Simple(%v) = %v, whose own is %v", c, s, Simple(s))
	}
	for _, n := range nodes(s) {
		if n.c.Kind == api.Not || slices.ContainsFunc(n.c.Kids, func(kid api.Cond) bool { return kid.Kind == n.c.Kind }) {
			t.Fatalf("Simple(%v) = %v", c, s)
		}
	}
	for _, b := range bs {
		if plainHolds(s, b) != plainHolds(c, b) {
			t.Fatalf("Simple(%v) = %v holds of other boards than it", c, s)
		}
	}
}

func TestKinds(t *testing.T) { // P12.1
	for _, kind := range []int{math.MinInt, -1, 0, 1, 2, 3, 4, 5, 6, 7, 1 << 8, 1<<8 + 1, 1 << 32, 1<<32 + 1, math.MaxInt} {
		leaf := kind == api.Is || kind == api.Isnt
		for kids := range 5 {
			c := api.Cond{Kind: kind}
			for range kids {
				c.Kids = append(c.Kids, is("a", "1"))
			}
			gathers := kind == api.Not && kids == 1 || (kind == api.And || kind == api.Or) && kids >= 2
			if Right(c) != gathers {
				t.Errorf("%v is right: %v", c, Right(c))
			}
			check(t, c, someBoards)
			c.Name = "a"
			if Right(c) != (leaf && kids == 0) {
				t.Errorf("%v is right: %v", c, Right(c))
			}
			check(t, c, someBoards)
			c.Val = "1"
			if Right(c) != (leaf && kids == 0) {
				t.Errorf("%v is right: %v", c, Right(c))
			}
			check(t, c, someBoards)
			c.Name = ""
			if Right(c) {
				t.Errorf("%v is right", c)
			}
			check(t, c, someBoards)
		}
	}
}

func TestNamesOfProperties(t *testing.T) { // P12.1: a name is a word, a value any text
	long := "a" + strings.Repeat("b", 39)
	for name, right := range map[string]bool{
		"a": true, "Z": true, "a1": true, "a-": true, "a_": true, "A-1_b": true, "i": true, "and": true, long: true,
		"": false, "1": false, "1a": false, "-": false, "-a": false, "_": false, "_a": false, "a b": false, " a": false, "a ": false, "a.b": false, "a\n": false, "a\x00": false, "é": false, "aé": false, "a=": false, long + "c": false, strings.Repeat("a", 1<<20): false,
	} {
		for _, val := range []string{"", "1", "a b", "\x00\n\xff", long + long, strings.Repeat("v", 1<<20)} {
			b := board("x", val, name, val)
			if c := is(name, val); Right(c) != right || Holds(c, b) != right || Holds(c, board()) || (len(Names(c)) == 1) != right {
				t.Errorf("Is of %.50q, %.50q: right %v, holds %v", name, val, Right(c), Holds(c, b))
			}
			if c := isnt(name, val); Right(c) != right || Holds(c, b) || Holds(c, board()) != right {
				t.Errorf("Isnt of %.50q, %.50q: right %v, holds %v", name, val, Right(c), Holds(c, b))
			}
		}
	}
}

func TestEmptyKids(t *testing.T) { // no list and one of nothing are the same
	for _, kids := range [][]api.Cond{nil, {}, make([]api.Cond, 0, 3), []api.Cond{{}, is("a", "1")}[:0]} {
		for kind := range 7 {
			c := api.Cond{Kind: kind, Kids: kids}
			if Right(c) {
				t.Errorf("%v is right", c)
			}
			c.Name = "a"
			if Right(c) != (kind == api.Is || kind == api.Isnt) {
				t.Errorf("%v is right: %v", c, Right(c))
			}
			check(t, c, someBoards)
		}
	}
}

func TestDeep(t *testing.T) { // P12.1: 20 deep, and no deeper
	around := map[string]func(api.Cond) api.Cond{
		"Not":       not,
		"And first": func(c api.Cond) api.Cond { return of(api.And, c, is("b", "1")) },
		"And last":  func(c api.Cond) api.Cond { return of(api.And, is("b", "1"), isnt("b", "2"), c) },
		"Or first":  func(c api.Cond) api.Cond { return of(api.Or, c, isnt("b", "1")) },
		"Or last":   func(c api.Cond) api.Cond { return of(api.Or, isnt("b", "1"), is("b", "2"), c) },
		"Not of Or": func(c api.Cond) api.Cond { return of(api.Or, isnt("b", "1"), not(c)) },
		"Not in And": func(c api.Cond) api.Cond {
			return not(of(api.And, is("b", "1"), c))
		},
	}
	b := board("a", "1", "b", "1")
	for how, put := range around {
		c := is("a", "1")
		for deep := 1; deep <= 45; {
			if Right(c) != (deep <= 20) {
				t.Errorf("%s, %d deep: right %v", how, deep, Right(c))
			}
			if want := deep <= 20 && plainHolds(c, b); Holds(c, b) != want {
				t.Errorf("%s, %d deep: holds %v", how, deep, Holds(c, b))
			}
			check(t, c, someBoards)
			c = put(c)
			ns := nodes(c)
			deep = ns[len(ns)-1].deep
		}
	}
}

func TestWrongDeepWithin(t *testing.T) { // P12.1: Kids are right
	b := board("a", "1")
	wrongs := []api.Cond{{}, {Kind: 6}, is("", ""), is("1", ""), {Kind: api.Isnt, Name: "a", Kids: []api.Cond{is("a", "1")}}, of(api.Not), of(api.Not, is("a", ""), is("a", "")), of(api.And), of(api.Or, is("a", "1")), {Kind: api.Or, Val: "x", Kids: []api.Cond{is("a", "1"), is("a", "1")}}}
	for _, inner := range append(wrongs, is("a", "1")) {
		c := inner
		for deep := 2; deep <= 18; deep++ {
			switch deep % 3 {
			case 0:
				c = not(not(c))
				deep++
			case 1:
				c = of(api.Or, is("a", "1"), c) // the first kid alone would do
			case 2:
				c = of(api.And, isnt("a", "1"), is("a", "1"), c, is("b", ""))
			}
			right := same(inner, is("a", "1"))
			if Right(c) != right || !right && Holds(c, b) {
				t.Errorf("%v, %d deep: right %v, holds %v", inner, deep, Right(c), Holds(c, b))
			}
			check(t, c, someBoards)
		}
	}
}

func TestOneThatHoldsItself(t *testing.T) { // DOC P1: every call ends
	for _, kind := range []int{api.Not, api.And, api.Or} {
		for at := range 3 {
			kids := []api.Cond{is("a", "1"), is("a", "1"), is("a", "1")}
			if kind == api.Not {
				kids = kids[:1]
			}
			c := of(kind, kids...)
			kids[at%len(kids)] = c
			if Right(c) || Holds(c, board("a", "1")) || Any([]api.Cond{c, c}, board("a", "1")) || Names(c) != nil || Simple(c).Kind != 0 {
				t.Errorf("kind %d that holds itself at %d is right", kind, at)
			}
		}
	}
}

func TestHolds(t *testing.T) { // P12.1
	twice := board("a", "1", "b", "", "a", "2")
	for i, x := range []struct {
		c     api.Cond
		b     api.Board
		holds bool
	}{
		{is("a", "1"), board(), false}, {isnt("a", "1"), board(), true}, {is("a", ""), board(), false}, {isnt("a", ""), board(), true},
		{is("a", "1"), board("a", "1"), true}, {isnt("a", "1"), board("a", "1"), false}, {is("a", "1"), board("a", "2"), false}, {isnt("a", "1"), board("a", "2"), true},
		{is("a", "1"), board("A", "1"), false}, {is("a", "x"), board("a", "X"), false}, {is("a", "1"), board("a", "1 "), false}, {is("a", "1"), board("b", "1"), false}, {is("a", "1"), board("1", "a"), false}, {is("ab", "c"), board("a", "bc"), false},
		{is("a", "1"), twice, true}, {is("a", "2"), twice, false}, {isnt("a", "2"), twice, true}, {isnt("a", "1"), twice, false}, {is("b", ""), twice, true}, {isnt("b", ""), twice, false}, {is("c", ""), twice, false},
		{is("a", "1"), api.Board{Name: "a"}, false}, {is("a", "\x00\xff"), board("a", "\x00\xff"), true},
		{not(is("a", "1")), twice, false}, {not(is("a", "2")), twice, true}, {not(isnt("a", "2")), twice, false}, {not(not(is("a", "1"))), twice, true},
		{of(api.And, is("a", "1"), is("b", "")), twice, true}, {of(api.And, is("a", "1"), is("b", "1")), twice, false}, {of(api.And, is("a", "2"), is("b", "")), twice, false}, {of(api.And, is("a", "1"), is("a", "2")), twice, false}, {of(api.And, is("a", "1"), is("b", ""), is("c", "")), twice, false}, {of(api.And, is("a", "1"), is("b", ""), isnt("c", "")), twice, true},
		{of(api.Or, is("a", "1"), is("b", "1")), twice, true}, {of(api.Or, is("a", "2"), is("b", "")), twice, true}, {of(api.Or, is("a", "2"), is("b", "1")), twice, false}, {of(api.Or, is("a", "2"), is("b", "1"), is("c", "")), twice, false}, {of(api.Or, is("a", "2"), is("b", "1"), isnt("c", "")), twice, true},
		{not(of(api.Or, is("a", "1"), is("a", "2"))), board(), true}, {not(of(api.Or, is("a", "1"), is("a", "2"))), board("a", "2"), false}, {not(of(api.Or, is("a", "1"), is("a", "2"))), board("a", "3"), true},
	} {
		if Holds(x.c, x.b) != x.holds {
			t.Errorf("%d: %v holds of %v: %v", i, x.c, x.b, !x.holds)
		}
		check(t, x.c, append(someBoards, x.b))
	}
}

func TestAny(t *testing.T) { // P12.1
	b := board("a", "1")
	yes, no, wrong := is("a", "1"), is("a", "2"), of(api.Or, is("a", "1"))
	for i, x := range []struct {
		cs   []api.Cond
		want bool
	}{
		{nil, false}, {[]api.Cond{}, false}, {[]api.Cond{yes}, true}, {[]api.Cond{no}, false}, {[]api.Cond{wrong}, false}, {[]api.Cond{{}}, false},
		{[]api.Cond{no, yes}, true}, {[]api.Cond{yes, no}, true}, {[]api.Cond{no, no}, false}, {[]api.Cond{yes, yes}, true}, {[]api.Cond{wrong, yes}, true}, {[]api.Cond{yes, wrong}, true}, {[]api.Cond{wrong, no}, false}, {[]api.Cond{{}, no, wrong, no, yes}, true}, {[]api.Cond{{}, no, wrong, no, wrong}, false},
	} {
		if Any(x.cs, b) != x.want {
			t.Errorf("%d: %v", i, !x.want)
		}
		if Any(x.cs, api.Board{}) {
			t.Errorf("%d: one holds of a board with no properties", i)
		}
	}
	many := slices.Repeat([]api.Cond{no, wrong}, 100000)
	if Any(many, b) || !Any(append(many, yes), b) {
		t.Error("Any of many")
	}
}

func TestNames(t *testing.T) { // P12.1: each once, rising by their bytes
	for i, x := range []struct {
		c    api.Cond
		want string
	}{
		{is("a", "1"), "a"}, {isnt("b", ""), "b"}, {not(is("a", "")), "a"},
		{of(api.And, is("b", "1"), is("a", "1")), "a b"}, {of(api.Or, is("a", "1"), is("a", "2"), isnt("a", "1")), "a"},
		{of(api.Or, is("a", ""), is("B", ""), is("a1", ""), is("a-", ""), is("a_", ""), is("aa", ""), is("A", ""), is("b", ""), is("Z", ""), is("a10", ""), is("a2", "")), "A B Z a a- a1 a10 a2 a_ aa b"},
		{of(api.And, not(of(api.Or, is("z", ""), is("y", ""))), of(api.Or, is("y", "2"), not(not(isnt("x", ""))))), "x y z"},
		{of(api.And, is("b", "1"), of(api.Or, is("a", "1"))), ""}, {is("", ""), ""}, {api.Cond{}, ""}, {api.Cond{Kind: 9, Name: "a"}, ""}, {of(api.And, is("b", "1"), is("1", "")), ""},
	} {
		if got := strings.Join(Names(x.c), " "); got != x.want {
			t.Errorf("%d: %q, not %q", i, got, x.want)
		}
	}
}

func TestManyNames(t *testing.T) { // DOC P2: not on a map's order
	c := of(api.Or)
	var want []string
	for i := range 3000 {
		name := fmt.Sprintf("n%d", i*7919%3000)
		c.Kids = append(c.Kids, is(name, ""), isnt(name, "1"))
		want = append(want, fmt.Sprintf("n%d", i))
	}
	slices.Sort(want)
	for range 5 {
		if !slices.Equal(Names(c), want) {
			t.Fatal("the names of many don't rise")
		}
	}
	if s := Simple(not(c)); len(s.Kids) != 6000 || s.Kind != api.And || s.Kids[1].Kind != api.Is {
		t.Errorf("Simple of many has %d kids", len(s.Kids))
	}
}

func TestSimple(t *testing.T) { // P12.1, P12.2
	a, b, c, d := is("a", "1"), is("b", "2"), is("c", ""), is("d", "4")
	na, nb, nc, nd := isnt("a", "1"), isnt("b", "2"), isnt("c", ""), isnt("d", "4")
	for i, x := range []struct{ c, want api.Cond }{
		{a, a}, {na, na}, {of(api.And, a, nb), of(api.And, a, nb)}, {of(api.Or, a, a), of(api.Or, a, a)}, {of(api.Or, of(api.And, a, b), c), of(api.Or, of(api.And, a, b), c)},
		{not(a), na}, {not(na), a}, {not(not(a)), a}, {not(not(not(na))), a}, {not(not(of(api.And, a, b))), of(api.And, a, b)},
		{not(of(api.And, a, b)), of(api.Or, na, nb)}, {not(of(api.Or, a, nb, c)), of(api.And, na, b, nc)}, {not(of(api.Or, is("a", "1"), is("a", "2"))), of(api.And, isnt("a", "1"), isnt("a", "2"))},
		{of(api.And, not(a), not(nb)), of(api.And, na, b)}, {of(api.Or, not(not(a)), b), of(api.Or, a, b)},
		{of(api.And, of(api.And, a, b), c), of(api.And, a, b, c)}, {of(api.And, a, of(api.And, b, c), d), of(api.And, a, b, c, d)}, {of(api.Or, a, of(api.Or, b, of(api.Or, c, d))), of(api.Or, a, b, c, d)}, {of(api.Or, of(api.Or, a, b), of(api.Or, c, d)), of(api.Or, a, b, c, d)},
		{of(api.And, of(api.Or, a, b), of(api.Or, c, d)), of(api.And, of(api.Or, a, b), of(api.Or, c, d))},
		{of(api.And, a, not(of(api.Or, b, c))), of(api.And, a, nb, nc)}, {of(api.Or, not(of(api.And, a, b)), c), of(api.Or, na, nb, c)},
		{of(api.And, a, not(of(api.And, b, c))), of(api.And, a, of(api.Or, nb, nc))}, {not(of(api.And, a, not(of(api.And, b, c)))), of(api.Or, na, of(api.And, b, c))},
		{not(of(api.Or, a, of(api.And, b, c))), of(api.And, na, of(api.Or, nb, nc))}, {not(of(api.Or, a, of(api.Or, b, not(of(api.And, c, d))))), of(api.And, na, nb, c, d)},
		{not(of(api.And, not(of(api.Or, a, b)), not(of(api.Or, c, nd)))), of(api.Or, a, b, c, nd)},
		{of(api.And, a, not(of(api.Or, b, not(of(api.And, c, not(of(api.Or, d, d))))))), of(api.And, a, nb, c, nd, nd)},
		{of(api.And, of(api.And, a, of(api.Or, b, of(api.And, c, d))), a), of(api.And, a, of(api.Or, b, of(api.And, c, d)), a)},
		{of(api.And, a, a), of(api.And, a, a)}, {of(api.Or, a, na), of(api.Or, a, na)},
		{not(of(api.And, a)), api.Cond{}}, {not(is("", "")), api.Cond{}}, {api.Cond{}, api.Cond{}}, {api.Cond{Kind: api.Not, Name: "a", Val: "1"}, api.Cond{}},
	} {
		if got := Simple(x.c); !same(got, x.want) {
			t.Errorf("%d: Simple(%v) = %v, not %v", i, x.c, got, x.want)
		}
		check(t, x.c, someBoards)
	}
}

func TestAllSmall(t *testing.T) { // P12.1, P12.2
	bs := []api.Board{board(), board("a", "1"), board("b", "2"), board("b", "2", "a", "2", "a", "1"), board("a", "1", "b", "2")}
	for _, c := range all([]api.Cond{is("a", "1"), isnt("a", "1"), is("b", "2"), isnt("a", "2"), {}, is("", "1")}) {
		check(t, c, bs)
	}
}

func TestAnyConditions(t *testing.T) { // P12.1, P12.2
	r := rand.New(rand.NewSource(12))
	bs := boards([]string{"a", "b", "A"}, []string{"", "1"})
	right := 0
	for i := range 6000 {
		c := anyRight(r, 1+r.Intn(6))
		if i%2 == 0 {
			spoil(r, &c)
		}
		if Right(c) {
			right++
		}
		check(t, c, bs[:40])
		check(t, not(c), bs[r.Intn(len(bs)):][:1])
	}
	if right < 3000 || right > 5500 {
		t.Errorf("%d of 6000 are right", right)
	}
}
