package cond

import (
	"math/rand"
	"regexp"
	"slices"

	"colloquy/api"
)

func is(name, val string) api.Cond { return api.Cond{Kind: api.Is, Name: name, Val: val} }

func isnt(name, val string) api.Cond { return api.Cond{Kind: api.Isnt, Name: name, Val: val} }

func of(kind int, kids ...api.Cond) api.Cond { return api.Cond{Kind: kind, Kids: kids} }

func not(kid api.Cond) api.Cond { return of(api.Not, kid) }

func board(pairs ...string) api.Board {
	b := api.Board{Name: "b"}
	for i := 0; i < len(pairs); i += 2 {
		b.Props = append(b.Props, api.Prop{Name: pairs[i], Val: pairs[i+1]})
	}
	return b
}

// node is a condition within another one, and how deep it stands.
type node struct {
	c    api.Cond
	deep int
}

func nodes(c api.Cond) []node {
	all := []node{{c, 1}}
	for i := 0; i < len(all); i++ {
		for _, kid := range all[i].c.Kids {
			all = append(all, node{kid, all[i].deep + 1})
		}
	}
	return all
}

var word = regexp.MustCompile(`^[a-zA-Z][a-zA-Z0-9_-]{0,39}$`)

// plainRight is Right as the document's words say it, of all conditions within one.
func plainRight(c api.Cond) bool {
	return !slices.ContainsFunc(nodes(c), func(n node) bool {
		kids, texts := len(n.c.Kids), n.c.Name+n.c.Val
		leaf := n.c.Kind == 1 || n.c.Kind == 2
		switch {
		case n.c.Kind < 1 || n.c.Kind > 5:
			return true
		case n.deep > 20:
			return true
		case leaf && (kids != 0 || !word.MatchString(n.c.Name)):
			return true
		case !leaf && texts != "":
			return true
		case n.c.Kind == 3 && kids != 1:
			return true
		}
		return n.c.Kind > 3 && kids < 2
	})
}

// plainHolds is whether a right condition holds, by how many kids do.
func plainHolds(c api.Cond, b api.Board) bool {
	held := 0
	for _, kid := range c.Kids {
		if plainHolds(kid, b) {
			held++
		}
	}
	switch c.Kind {
	case api.Not:
		return held == 0
	case api.And:
		return held == len(c.Kids)
	case api.Or:
		return held > 0
	}
	first := map[string]string{}
	for _, p := range slices.Backward(b.Props) {
		first[p.Name] = p.Val
	}
	val, there := first[c.Name]
	return (there && val == c.Val) == (c.Kind == api.Is)
}

// plainNames are a right condition's names.
func plainNames(c api.Cond) []string {
	var all []string
	for _, n := range nodes(c) {
		if n.c.Name != "" {
			all = append(all, n.c.Name)
		}
	}
	slices.Sort(all)
	return slices.Compact(all)
}

// plainSimple rewrites a right condition by the document's rules, one at a time, the outermost first.
func plainSimple(c api.Cond) api.Cond {
	for c.Kind == api.Not {
		kid := c.Kids[0]
		switch kid.Kind {
		case api.Is:
			c = isnt(kid.Name, kid.Val)
		case api.Isnt:
			c = is(kid.Name, kid.Val)
		case api.Not:
			c = kid.Kids[0]
		case api.And:
			c = of(api.Or, nots(kid.Kids)...)
		case api.Or:
			c = of(api.And, nots(kid.Kids)...)
		}
	}
	out := api.Cond{Kind: c.Kind, Name: c.Name, Val: c.Val}
	for _, kid := range c.Kids {
		out.Kids = append(out.Kids, plainSimple(kid))
	}
	for i := 0; i < len(out.Kids); {
		if kid := out.Kids[i]; kid.Kind == out.Kind {
			out.Kids = slices.Replace(out.Kids, i, i+1, kid.Kids...)
		} else {
			i++
		}
	}
	return out
}

func nots(kids []api.Cond) []api.Cond {
	var out []api.Cond
	for _, kid := range kids {
		out = append(out, not(kid))
	}
	return out
}

// same tells whether two conditions have the same fields; no list and one of nothing are the same.
func same(a, b api.Cond) bool {
	return a.Kind == b.Kind && a.Name == b.Name && a.Val == b.Val && slices.EqualFunc(a.Kids, b.Kids, same)
}

// all are conditions of all kinds, of these and of each other, up to two kinds one within another.
func all(leaves []api.Cond) []api.Cond {
	return around(around(leaves))
}

// around are conditions, and those with up to two of them as kids.
func around(some []api.Cond) []api.Cond {
	out := slices.Clone(some)
	for _, kind := range []int{api.Not, api.And, api.Or} {
		out = append(out, of(kind))
		for _, a := range some {
			out = append(out, of(kind, a))
			for _, b := range some {
				out = append(out, of(kind, a, b))
			}
		}
	}
	return out
}

// boards are those with up to three properties of these.
func boards(names, vals []string) []api.Board {
	out := []api.Board{{}}
	for from := 0; len(out[from].Props) < 3; from++ {
		for _, name := range names {
			for _, val := range vals {
				b := api.Board{Props: slices.Clone(out[from].Props)}
				b.Props = append(b.Props, api.Prop{Name: name, Val: val})
				out = append(out, b)
			}
		}
	}
	return out
}

// anyRight is a right condition of at most so many, one within another.
func anyRight(r *rand.Rand, deep int) api.Cond {
	if deep == 1 || r.Intn(4) == 0 {
		names, vals := []string{"a", "b", "A", "a-1", "z_"}, []string{"", "1", "a"}
		return api.Cond{Kind: 1 + r.Intn(2), Name: names[r.Intn(len(names))], Val: vals[r.Intn(len(vals))]}
	}
	c := api.Cond{Kind: 3 + r.Intn(3)}
	kids := 1
	if c.Kind != api.Not {
		kids = 2 + r.Intn(3)
	}
	for range kids {
		c.Kids = append(c.Kids, anyRight(r, deep-1))
	}
	return c
}

// spoil changes one of the conditions within one, so that it may not be right any more.
func spoil(r *rand.Rand, c *api.Cond) {
	for len(c.Kids) > 0 && r.Intn(3) > 0 {
		c = &c.Kids[r.Intn(len(c.Kids))]
	}
	switch r.Intn(5) {
	case 0:
		c.Kind = r.Intn(9) - 1
	case 1:
		c.Name = []string{"", "1", "a", "a b"}[r.Intn(4)]
	case 2:
		c.Val = []string{"", "x"}[r.Intn(2)]
	case 3:
		c.Kids = append(c.Kids, is("a", "1"))
	case 4:
		c.Kids = c.Kids[:len(c.Kids)/2]
	}
}
