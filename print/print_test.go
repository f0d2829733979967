package print

import (
	"math"
	"math/rand"
	"slices"
	"strings"
	"testing"

	"colloquy/api"
	"colloquy/cond"
	"colloquy/tok"
)

func is(name, val string) api.Cond { return api.Cond{Kind: api.Is, Name: name, Val: val} }

func isnt(name, val string) api.Cond { return api.Cond{Kind: api.Isnt, Name: name, Val: val} }

func of(kind int, kids ...api.Cond) api.Cond { return api.Cond{Kind: kind, Kids: kids} }

func suiteOf(ts ...api.Test) api.Suite {
	return api.Suite{Name: "s", Groups: []api.Group{{Name: "g", Tests: ts}}}
}

// has: steps have this text, within nothing and within a test.
func has(t *testing.T, text string, ss ...api.Step) {
	t.Helper()
	if got := Steps(ss, 0); got != text {
		t.Errorf("Steps(%v) = %q, not %q", ss, got, text)
	}
	inner := ""
	for l := range strings.Lines(text) {
		inner += "    " + l
	}
	s := suiteOf(api.Test{Name: "t", Steps: ss})
	want := "suite \"s\"\ngroup \"g\" {\n  test \"t\" budget 0 {\n" + inner + "  }\n}\n"
	if got := Text(s); got != want || got != plain(s) {
		t.Errorf("Text(%v) = %q, not %q", s, got, want)
	}
}

const form = `suite "name"
board "name" {
  word = "value"
}
group "name" {
  test "name" budget 20 xfail a = "" xfail b != "" {
    send "text"
    expect 5 {
      exact "text" again {
      }
      late {
      }
    }
    loop 3 {
    }
    near 1+2i 0.5
    pass
    fail
    wait 2
  }
  test "name" budget 20 untested
}
`

func TestForm(t *testing.T) { // P15.1
	s := api.Suite{
		Name:   "name",
		Boards: []api.Board{{Name: "name", Props: []api.Prop{{Name: "word", Val: "value"}}}},
		Groups: []api.Group{{Name: "name", Tests: []api.Test{
			{Name: "name", Budget: 20, Xfail: []api.Cond{is("a", ""), isnt("b", "")}, Steps: []api.Step{
				{Kind: api.Send, Text: "text"}, {Kind: api.Expect, N: 5, Clauses: []api.Clause{{Kind: api.Exact, Text: "text", Again: true}, {Kind: api.Late}}},
				{Kind: api.Loop, N: 3}, {Kind: api.Near, Z: 1 + 2i, Tol: 0.5}, {Kind: api.Pass}, {Kind: api.Fail}, {Kind: api.Wait, N: 2},
			}},
			{Name: "name", Budget: 20, Kind: api.Untested},
		}}},
	}
	if got := Text(s); got != form || got != plain(s) {
		t.Errorf("%s", got)
	}
	// The document's example counts seven lines, with the one of no bytes behind the last byte 10.
	if got := Text(suiteOf(api.Test{Name: "t", Budget: 1000, Steps: []api.Step{{Kind: api.Pass}}})); got != "suite \"s\"\ngroup \"g\" {\n  test \"t\" budget 1000 {\n    pass\n  }\n}\n" {
		t.Errorf("%s", got)
	}
	if got := Cond(of(api.Not, of(api.Or, is("a", "1"), isnt("b", "2")))); got != `!(a = "1" | b != "2")` {
		t.Error(got)
	}
}

func TestEmpty(t *testing.T) { // P15.1: nothing in a { }
	for text, s := range map[string]api.Suite{
		"suite \"\"\n":                                                                    {},
		"suite \"\"\nboard \"\" {\n}\n":                                                   {Boards: []api.Board{{}}},
		"suite \"\"\nboard \"a\" {\n}\nboard \"b\" {\n}\n":                                {Boards: []api.Board{{Name: "a", Props: []api.Prop{}}, {Name: "b"}}},
		"suite \"\"\ngroup \"\" {\n}\n":                                                   {Groups: []api.Group{{}}},
		"suite \"\"\ngroup \"\" {\n  test \"\" budget 0 {\n  }\n}\n":                      {Groups: []api.Group{{Tests: []api.Test{{}}}}},
		"suite \"\"\nboard \"\" {\n   = \"\"\n  a b = \"\"\n}\ngroup \"g\" {\n}\n":        {Boards: []api.Board{{Props: []api.Prop{{}, {Name: "a b"}}}}, Groups: []api.Group{{Name: "g", Tests: []api.Test{}}}},
		"suite \"\"\ngroup \"a\" {\n  test \"t\" budget -1 {\n  }\n}\ngroup \"b\" {\n}\n": {Groups: []api.Group{{Name: "a", Tests: []api.Test{{Name: "t", Budget: -1, Xfail: []api.Cond{}, Steps: []api.Step{}}}}, {Name: "b"}}},
	} {
		if got := Text(s); got != text || got != plain(s) {
			t.Errorf("Text(%v) = %q", s, got)
		}
	}
	for _, none := range [][]api.Step{nil, {}} {
		has(t, "", none...)
		has(t, "loop 0 {\n}\n", api.Step{Kind: api.Loop, Steps: none})
		has(t, "expect 0 {\n  eof {\n  }\n}\n", api.Step{Kind: api.Expect, Clauses: []api.Clause{{Kind: api.Eof, Steps: none}}})
	}
	has(t, "expect 0 {\n}\n", api.Step{Kind: api.Expect})
	has(t, "expect 0 {\n}\n", api.Step{Kind: api.Expect, Clauses: []api.Clause{}})
}

func TestEachStep(t *testing.T) { // P15.1
	all := func(kind int) api.Step { // with all that may be told of some step
		return api.Step{Kind: kind, N: 7, Text: "x", Z: 1 + 2i, Tol: 0.5, Clauses: []api.Clause{{Kind: api.Late}}, Steps: []api.Step{{Kind: api.Pass}}}
	}
	for kind, text := range map[int]string{
		api.Send: "send \"x\"\n", api.Expect: "expect 7 {\n  late {\n  }\n}\n", api.Loop: "loop 7 {\n  pass\n}\n", api.Near: "near 1+2i 0.5\n", api.Pass: "pass\n", api.Fail: "fail\n", api.Wait: "wait 7\n",
		0: "", -1: "", 8: "", 9: "", 1000: "", math.MaxInt: "", math.MinInt: "",
	} {
		has(t, text, all(kind))
		has(t, "pass\n"+text+"fail\n", api.Step{Kind: api.Pass}, all(kind), api.Step{Kind: api.Fail})
		has(t, text+text, all(kind), all(kind))
	}
	for n, text := range map[int]string{0: "0", -3: "-3", 1000000000: "1000000000", 123456789012: "123456789012", math.MaxInt64: "9223372036854775807", math.MinInt64: "-9223372036854775808"} {
		has(t, "wait "+text+"\nloop "+text+" {\n}\nexpect "+text+" {\n}\n", api.Step{Kind: api.Wait, N: n}, api.Step{Kind: api.Loop, N: n}, api.Step{Kind: api.Expect, N: n})
	}
}

func TestEachClause(t *testing.T) { // P15.1
	for kind, head := range map[int]string{
		api.Exact: `exact "x"`, api.Glob: `glob "x"`, api.Regex: `regex "x"`, api.Late: "late", api.Eof: "eof", api.Death: "death", api.Full: "full",
		0: "", -1: "", 8: "", 300: "", math.MaxInt: "", math.MinInt: "",
	} {
		for _, again := range []bool{false, true} {
			c := api.Clause{Kind: kind, Text: "x", Again: again, Steps: []api.Step{{Kind: api.Pass}, {Kind: 8}}}
			text := ""
			if head != "" {
				text = "  " + head + " {\n    pass\n  }\n"
			}
			if again {
				text = strings.Replace(text, " {", " again {", 1)
			}
			has(t, "expect 0 {\n"+text+"}\n", api.Step{Kind: api.Expect, Clauses: []api.Clause{c}})
			has(t, "expect 0 {\n"+text+"  full {\n  }\n"+text+"}\n", api.Step{Kind: api.Expect, Clauses: []api.Clause{c, {Kind: api.Full}, c}})
		}
	}
}

func TestEachTest(t *testing.T) { // P15.1
	for kind, behind := range map[int]string{api.Run: " {\n    pass\n  }\n", api.Untested: " untested\n", api.Unsupported: " unsupported\n", 3: " untested\n", -1: " untested\n", math.MaxInt: " untested\n", math.MinInt: " untested\n"} {
		one := api.Test{Name: "t", Kind: kind, Budget: 5, Steps: []api.Step{{Kind: api.Pass}}}
		s := suiteOf(one, one)
		if got := Text(s); got != "suite \"s\"\ngroup \"g\" {\n"+strings.Repeat("  test \"t\" budget 5"+behind, 2)+"}\n" || got != plain(s) {
			t.Errorf("a test of kind %d: %s", kind, got)
		}
	}
	wrong := of(api.And, is("a", ""))
	for _, x := range []struct {
		xfail []api.Cond
		text  string
	}{
		{nil, ""}, {[]api.Cond{}, ""}, {[]api.Cond{is("a", "1")}, ` xfail a = "1"`}, {[]api.Cond{is("a", "1"), is("a", "1")}, ` xfail a = "1" xfail a = "1"`},
		{[]api.Cond{wrong}, ""}, {[]api.Cond{{}}, ""}, {[]api.Cond{wrong, is("a", "1"), {}, isnt("b", ""), wrong}, ` xfail a = "1" xfail b != ""`}, {[]api.Cond{of(api.Or, is("a", ""), wrong)}, ""},
		{[]api.Cond{is(strings.Repeat("w", 41), "")}, ""}, {[]api.Cond{is(strings.Repeat("w", 40), "")}, " xfail " + strings.Repeat("w", 40) + ` = ""`},
	} {
		for kind, behind := range map[int]string{api.Run: " {\n  }\n", api.Untested: " untested\n", api.Unsupported: " unsupported\n"} {
			s := suiteOf(api.Test{Name: "t", Kind: kind, Budget: 1, Xfail: x.xfail})
			if got := Text(s); got != "suite \"s\"\ngroup \"g\" {\n  test \"t\" budget 1"+x.text+behind+"}\n" || got != plain(s) {
				t.Errorf("xfail %v: %s", x.xfail, got)
			}
		}
	}
}

func TestNumbers(t *testing.T) { // P15.1: those that aren't right, and a Tol below 0
	nan, inf, minus := math.NaN(), math.Inf(1), math.Copysign(0, -1)
	for _, x := range []struct {
		z    complex128
		text string
	}{
		{0, "0"}, {1, "1"}, {-1, "-1"}, {1i, "0+1i"}, {-1i, "0-1i"}, {1 + 2i, "1+2i"}, {-1.5 - 0.25i, "-1.5-0.25i"}, {complex(minus, minus), "0"}, {complex(minus, 1), "0+1i"}, {1e21, "1e+21"}, {1000000, "1e+06"}, {123456, "123456"}, {1e-80, "1e-80"}, {complex(1e300, -1e-300), "1e+300-1e-300i"}, {complex(1.0/3, 0), "0.3333333333333333"}, {complex(math.MaxFloat64, math.SmallestNonzeroFloat64), "1.7976931348623157e+308+5e-324i"},
		{complex(nan, 0), "0"}, {complex(0, nan), "0"}, {complex(nan, 5), "0"}, {complex(5, nan), "0"}, {complex(inf, 1), "0"}, {complex(1, -inf), "0"}, {complex(-inf, nan), "0"},
	} {
		has(t, "near "+x.text+" 0\n", api.Step{Kind: api.Near, Z: x.z})
	}
	for _, x := range []struct {
		tol  float64
		text string
	}{
		{0, "0"}, {minus, "0"}, {0.5, "0.5"}, {1, "1"}, {1e21, "1e+21"}, {1e-80, "1e-80"}, {math.SmallestNonzeroFloat64, "5e-324"}, {math.MaxFloat64, "1.7976931348623157e+308"},
		{-1, "0"}, {-0.5, "0"}, {-math.SmallestNonzeroFloat64, "0"}, {-math.MaxFloat64, "0"}, {nan, "0"}, {inf, "0"}, {-inf, "0"},
	} {
		has(t, "near 1 "+x.text+"\n", api.Step{Kind: api.Near, Z: 1, Tol: x.tol})
		has(t, "near 0 "+x.text+"\n", api.Step{Kind: api.Near, Z: complex(nan, 0), Tol: x.tol})
	}
}

func TestQuotes(t *testing.T) { // P15.1: all bytes, wherever a quote stands
	var all []byte
	for i := range 256 {
		all = append(all, byte(i))
	}
	texts := []string{string(all), "", " ", "\"", "\\", "\n", "{", " {", "}", "é", `\x41`, strings.Repeat("q", 1<<16)}
	for _, b := range all {
		texts = append(texts, string([]byte{b}))
	}
	for _, x := range texts {
		q := tok.Quoted(x)
		has(t, "send "+q+"\n", api.Step{Kind: api.Send, Text: x})
		has(t, "expect 0 {\n  regex "+q+" {\n  }\n}\n", api.Step{Kind: api.Expect, Clauses: []api.Clause{{Kind: api.Regex, Text: x}}})
		s := api.Suite{Name: x, Boards: []api.Board{{Name: x, Props: []api.Prop{{Name: "a", Val: x}}}}, Groups: []api.Group{{Name: x, Tests: []api.Test{{Name: x, Kind: 1, Xfail: []api.Cond{is("a", x), isnt("a", x)}}}}}}
		want := "suite Q\nboard Q {\n  a = Q\n}\ngroup Q {\n  test Q budget 0 xfail a = Q xfail a != Q untested\n}\n"
		if got := Text(s); got != strings.ReplaceAll(want, "Q", q) {
			t.Errorf("Text of %q: %q", x, got)
		}
	}
}

func TestDeep(t *testing.T) { // P15.1: deep below 0 counts as 0, above 20 as 20; what is within stands deeper
	ss := []api.Step{{Kind: api.Pass}, {Kind: api.Loop, N: 1, Steps: []api.Step{{Kind: api.Fail}, {Kind: api.Expect, N: 2, Clauses: []api.Clause{{Kind: api.Late, Steps: []api.Step{{Kind: api.Wait}}}}}}}, {Kind: api.Pass}}
	for deep, blanks := range map[int]int{0: 0, 1: 2, 2: 4, 6: 12, 19: 38, 20: 40, 21: 40, 22: 40, 99: 40, -1: 0, -20: 0, math.MinInt: 0, math.MaxInt: 40} {
		if got := Steps([]api.Step{{Kind: api.Pass}}, deep); got != strings.Repeat(" ", blanks)+"pass\n" {
			t.Errorf("%d deep: %q", deep, got)
		}
		if got := Steps(ss, deep); got != indented(plainLines(ss), blanks/2) {
			t.Errorf("%d deep: %q", deep, got)
		}
		if got := Steps(nil, deep); got != "" {
			t.Errorf("%d deep: %q", deep, got)
		}
	}
	if got := Steps(ss[1:2], 99); !strings.Contains(got, "\n"+strings.Repeat("  ", 23)+"wait 0\n") {
		t.Errorf("%q", got)
	}
	for _, deep := range []int{7, 21, 50, 3000} {
		inner := []api.Step{{Kind: api.Pass}}
		for i := range deep {
			if i%2 == 0 {
				inner = []api.Step{{Kind: api.Loop, Steps: inner}}
			} else {
				inner = []api.Step{{Kind: api.Expect, Clauses: []api.Clause{{Kind: api.Full, Steps: inner}}}}
			}
		}
		s := suiteOf(api.Test{Steps: inner})
		if Text(s) != plain(s) || Steps(inner, 3) != indented(plainLines(inner), 3) {
			t.Errorf("steps that are %d deep", deep)
		}
	}
}

func TestMany(t *testing.T) { // P15.1: as many as one likes
	step := api.Step{Kind: api.Expect, Clauses: slices.Repeat([]api.Clause{{Kind: api.Late}}, 300)}
	test := api.Test{Xfail: slices.Repeat([]api.Cond{is("a", "")}, 300), Steps: slices.Repeat([]api.Step{step}, 300)}
	s := api.Suite{Boards: slices.Repeat([]api.Board{{Props: slices.Repeat([]api.Prop{{Name: "a"}}, 300)}}, 300), Groups: []api.Group{{Tests: []api.Test{test}}, {Tests: slices.Repeat([]api.Test{{Kind: 1}}, 300)}}}
	if Text(s) != plain(s) {
		t.Error("a suite of many")
	}
}

func TestCond(t *testing.T) { // P15.1: each kind in each other
	a, b, c := is("a", "1"), isnt("b", "2"), is("c", "")
	not := func(c api.Cond) api.Cond { return of(api.Not, c) }
	and, or := of(api.And, a, b), of(api.Or, a, b)
	for i, x := range []struct {
		c    api.Cond
		text string
	}{
		{a, "A"}, {b, "B"}, {and, "A & B"}, {or, "A | B"}, {of(api.And, a, b, c), "A & B & C"}, {of(api.Or, a, b, c), "A | B | C"}, {of(api.And, a, a), "A & A"},
		{not(a), "!A"}, {not(b), "!B"}, {not(not(a)), "!!A"}, {not(not(not(b))), "!!!B"}, {not(and), "!(A & B)"}, {not(or), "!(A | B)"}, {not(not(and)), "!!(A & B)"}, {not(not(or)), "!!(A | B)"},
		{of(api.And, not(a), b), "!A & B"}, {of(api.And, a, not(b)), "A & !B"}, {of(api.And, not(and), c), "!(A & B) & C"}, {of(api.And, c, not(or)), "C & !(A | B)"},
		{of(api.Or, not(a), b), "!A | B"}, {of(api.Or, a, not(not(b))), "A | !!B"}, {of(api.Or, not(and), c), "!(A & B) | C"}, {of(api.Or, c, not(or)), "C | !(A | B)"},
		{of(api.And, and, c), "(A & B) & C"}, {of(api.And, c, and), "C & (A & B)"}, {of(api.And, or, c), "(A | B) & C"}, {of(api.And, c, or), "C & (A | B)"}, {of(api.And, and, and), "(A & B) & (A & B)"}, {of(api.And, or, or), "(A | B) & (A | B)"},
		{of(api.Or, and, c), "A & B | C"}, {of(api.Or, c, and), "C | A & B"}, {of(api.Or, or, c), "(A | B) | C"}, {of(api.Or, c, or), "C | (A | B)"}, {of(api.Or, and, and), "A & B | A & B"}, {of(api.Or, or, or), "(A | B) | (A | B)"},
		{of(api.Or, of(api.And, or, c), a), "(A | B) & C | A"}, {of(api.Or, of(api.And, and, c), a), "(A & B) & C | A"}, {not(of(api.Or, and, not(of(api.And, or, c)))), "!(A & B | !((A | B) & C))"},
	} {
		want := strings.NewReplacer("A", `a = "1"`, "B", `b != "2"`, "C", `c = ""`).Replace(x.text)
		if got := Cond(x.c); got != want || got != plainCond(x.c) {
			t.Errorf("%d: Cond(%v) = %s, not %s", i, x.c, got, want)
		}
	}
	if got := Cond(is("a", "\n\"\\\x00")); got != `a = "\n\"\\\x00"` {
		t.Error(got)
	}
}

func TestWrongCond(t *testing.T) { // P15.1: the empty text of one that isn't right
	a := is("a", "1")
	deep := a
	for range 19 {
		deep = of(api.Not, deep)
	}
	if Cond(deep) != strings.Repeat("!", 19)+`a = "1"` {
		t.Error(Cond(deep))
	}
	held := []api.Cond{a, a}
	held[1] = of(api.Or, held...) // one that holds itself
	held[1].Kids = held
	for i, c := range []api.Cond{{}, {Kind: 6}, {Kind: -1, Name: "a"}, {Kind: 6, Kids: []api.Cond{a, a}}, is("", ""), is("1", ""), is("a b", ""), is(strings.Repeat("w", 41), ""), {Kind: api.Is, Name: "a", Kids: []api.Cond{a}}, of(api.Not), of(api.Not, a, a), of(api.And), of(api.And, a), of(api.Or, a), {Kind: api.Not, Name: "a", Kids: []api.Cond{a}}, {Kind: api.Or, Val: "a", Kids: []api.Cond{a, a}}, of(api.And, a, api.Cond{}), of(api.Or, of(api.Not, is("", "")), a), of(api.Not, deep), of(api.Or, a, of(api.And, deep, a)), held[1]} {
		if got := Cond(c); got != "" {
			t.Errorf("%d: %s", i, got)
		}
	}
}

func TestAnySuites(t *testing.T) { // P15.1, DOC P2
	r := rand.New(rand.NewSource(15))
	for i := range 4000 {
		m := maker{r: r, parsed: i%2 == 0}
		s := m.suite()
		got := Text(s)
		if got != plain(s) || got != Text(s) {
			t.Fatalf("Text(%#v) = %s, not %s", s, got, plain(s))
		}
		ss, deep := m.steps(5), r.Intn(40)-10
		if got := Steps(ss, deep); got != indented(plainLines(ss), max(0, min(20, deep))) {
			t.Fatalf("Steps(%#v, %d) = %s", ss, deep, got)
		}
		c, want := m.cond(1+r.Intn(6)), ""
		if cond.Right(c) {
			want = plainCond(c)
		}
		if got := Cond(c); got != want {
			t.Fatalf("Cond(%v) = %s, not %s", c, got, want)
		}
	}
}
