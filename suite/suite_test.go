package suite

import (
	"math/rand"
	"slices"
	"strings"
	"testing"

	"colloquy/api"
	"colloquy/tok"
)

const whole = `suite "s"
board "b" { arch = "arm" test = "" }
board "c" { }
group "g" {
  test "t" budget 20 xfail a = "1" & !(b != "2" | !c = "") & (d = "3") xfail e = "" | (f = "" | g = "") | xfail = "" & budget != "" {
    send "hi"
    expect 5 {
      exact "ok" again { pass }
      glob "*" { }
      regex "a|b" { loop 2 { expect 0 { } near -1.5+2i 0.25 } fail }
      late again { fail wait 3 }
      eof { } death { } full again { }
    }
    loop 3 { wait 0 loop 1 { } }
    near 1 0
  }
  test "u" untested
  test "v" budget 5 xfail a = "" unsupported
}
group "h" { }`

func is(name, val string) api.Cond { return api.Cond{Kind: api.Is, Name: name, Val: val} }

func isnt(name, val string) api.Cond { return api.Cond{Kind: api.Isnt, Name: name, Val: val} }

func of(kind int, kids ...api.Cond) api.Cond { return api.Cond{Kind: kind, Kids: kids} }

// wholeSuite is the suite of whole.
func wholeSuite() api.Suite {
	pass, fail := api.Step{Kind: api.Pass}, api.Step{Kind: api.Fail}
	one := of(api.And, is("a", "1"), of(api.Not, of(api.Or, isnt("b", "2"), of(api.Not, is("c", "")))), is("d", "3"))
	two := of(api.Or, is("e", ""), of(api.Or, is("f", ""), is("g", "")), of(api.And, is("xfail", ""), isnt("budget", "")))
	expect := api.Step{Kind: api.Expect, N: 5, Clauses: []api.Clause{
		{Kind: api.Exact, Text: "ok", Again: true, Steps: []api.Step{pass}},
		{Kind: api.Glob, Text: "*"},
		{Kind: api.Regex, Text: "a|b", Steps: []api.Step{{Kind: api.Loop, N: 2, Steps: []api.Step{{Kind: api.Expect}, {Kind: api.Near, Z: -1.5 + 2i, Tol: 0.25}}}, fail}},
		{Kind: api.Late, Again: true, Steps: []api.Step{fail, {Kind: api.Wait, N: 3}}},
		{Kind: api.Eof}, {Kind: api.Death}, {Kind: api.Full, Again: true},
	}}
	loop := api.Step{Kind: api.Loop, N: 3, Steps: []api.Step{{Kind: api.Wait}, {Kind: api.Loop, N: 1}}}
	return api.Suite{
		Name:   "s",
		Boards: []api.Board{{Name: "b", Props: []api.Prop{{Name: "arch", Val: "arm"}, {Name: "test"}}}, {Name: "c"}},
		Groups: []api.Group{{Name: "g", Tests: []api.Test{
			{Name: "t", Budget: 20, Xfail: []api.Cond{one, two}, Steps: []api.Step{{Kind: api.Send, Text: "hi"}, expect, loop, {Kind: api.Near, Z: 1}}},
			{Name: "u", Kind: api.Untested, Budget: 1000},
			{Name: "v", Kind: api.Unsupported, Budget: 5, Xfail: []api.Cond{is("a", "")}},
		}}, {Name: "h"}},
	}
}

func TestWhole(t *testing.T) { // P14.1
	has(t, whole, wholeSuite())
	flawed(t, strings.Replace(whole, "budget 5 xfail a", "xfail a", 1)+" ^xfail", api.ErrWord)
}

func TestExamples(t *testing.T) { // P14.1
	has(t, `suite "s" group "g" { test "t" { send "x" pass } }`, api.Suite{Name: "s", Groups: []api.Group{{Name: "g", Tests: []api.Test{{Name: "t", Budget: 1000, Steps: []api.Step{{Kind: api.Send, Text: "x"}, {Kind: api.Pass}}}}}}})
	flawed(t, `suite "s" ^grp`, api.ErrWord)
	flawed(t, `suite ^3`, api.ErrToken)
}

func TestLittle(t *testing.T) { // P14.1: what may be missing
	has(t, `suite ""`, api.Suite{})
	has(t, `suite"s"`, api.Suite{Name: "s"})
	has(t, ` suite "\x00\n" # `, api.Suite{Name: "\x00\n"})
	has(t, `suite "s" board "" { }`, api.Suite{Name: "s", Boards: []api.Board{{}}})
	has(t, `suite "s" board "b" { a = "" a = "" }`, api.Suite{Name: "s", Boards: []api.Board{{Name: "b", Props: []api.Prop{{Name: "a"}, {Name: "a"}}}}})
	has(t, `suite "s" group "g" { }`, api.Suite{Name: "s", Groups: []api.Group{{Name: "g"}}})
	has(t, `suite "s" group "g" { } group "g" { }`, api.Suite{Name: "s", Groups: []api.Group{{Name: "g"}, {Name: "g"}}})
	for _, text := range []string{"", " ", "\n\t# a", "\r\n", "#"} {
		flawed(t, text+"^", api.ErrToken)
		flawed(t, text+"\nsuite^", api.ErrToken)
	}
}

// inTest is a text with something behind a test's name.
func inTest(s string) string { return `suite "s" group "g" { test "t" ` + s }

// testOf is the one test of a text.
func testOf(t *testing.T, s string) api.Test {
	t.Helper()
	got, flaw := check(t, inTest(s)+" }")
	if flaw.Code != api.OK || len(got.Groups) != 1 || len(got.Groups[0].Tests) != 1 {
		t.Fatalf("%s: %v, %v", s, got, flaw)
	}
	return got.Groups[0].Tests[0]
}

// wrong: behind a test's name something is wrong, where the ^ is.
func wrong(t *testing.T, s string, code api.Errno) {
	t.Helper()
	flawed(t, inTest(s), code)
}

func TestTests(t *testing.T) { // P14.1
	for s, want := range map[string]api.Test{
		"{}":                                {Budget: 1000},
		"untested":                          {Budget: 1000, Kind: 1},
		"unsupported":                       {Budget: 1000, Kind: 2},
		"budget 0 {}":                       {},
		"budget 7 untested":                 {Budget: 7, Kind: 1},
		`xfail a="" unsupported`:            {Budget: 1000, Kind: 2, Xfail: []api.Cond{is("a", "")}},
		`budget 7 xfail a="" xfail a="" {}`: {Budget: 7, Xfail: []api.Cond{is("a", ""), is("a", "")}},
	} {
		want.Name = "t"
		has(t, inTest(s)+" }", api.Suite{Name: "s", Groups: []api.Group{{Name: "g", Tests: []api.Test{want}}}})
		has(t, inTest(s)+` test "t" `+s+"}", api.Suite{Name: "s", Groups: []api.Group{{Name: "g", Tests: []api.Test{want, want}}}})
	}
	for s, code := range map[string]api.Errno{
		"^": api.ErrToken, "budget^": api.ErrToken, "budget ^untested": api.ErrToken, "budget 5^": api.ErrToken, "budget 5 ^budget 5": api.ErrWord, "budget 5 ^5": api.ErrToken, `xfail a="" ^budget 5`: api.ErrWord,
		"^foo": api.ErrWord, "^send": api.ErrWord, "^Untested": api.ErrWord, "^pass": api.ErrWord, "^5": api.ErrToken, "^}": api.ErrToken, "^!": api.ErrToken, `^"untested"`: api.ErrToken, `^"{" }`: api.ErrToken,
		"untested ^pass": api.ErrWord, "untested ^unsupported": api.ErrWord, "untested ^{": api.ErrToken, "untested^": api.ErrToken, "{} ^untested": api.ErrWord, "{} ^{}": api.ErrToken, "{}^": api.ErrToken, "{} } ^test": api.ErrWord, "{} } ^}": api.ErrToken,
	} {
		wrong(t, s, code)
	}
}

func TestCounts(t *testing.T) { // P14.1
	for text, n := range map[string]int{"0": 0, "-0": 0, "1": 1, "+1": 1, "1000000000": 1000000000, "1e9": 1000000000, "0.1e10": 1000000000, "1.0": 1, "2.5e1": 25, "007": 7, "5+0i": 5, "5-0i": 5, "0i": 0} {
		if got := testOf(t, "budget "+text+" {}").Budget; got != n {
			t.Errorf("budget %s is %d", text, got)
		}
		steps := testOf(t, "{ wait "+text+" loop "+text+" {} expect "+text+" {} }").Steps
		for _, s := range steps {
			if s.N != n {
				t.Errorf("%s is %d", text, s.N)
			}
		}
	}
	for _, text := range []string{"1000000001", "1e10", "1000000000.5", "-1", "-1e9", "0.5", "-0.5", "2.5", "1e-9", "1e80", "1i", "-i", "5+1i", "5-1e-80i", "123456789012345", `"5"`, "five", "{", "=", "i"} {
		for _, ahead := range []string{"budget ", "{ wait ", "{ loop ", "{ expect ", "budget 1 { loop 1 { wait "} {
			wrong(t, ahead+"^"+text, api.ErrToken)
			wrong(t, ahead+"^"+text+" {", api.ErrToken)
		}
	}
}

func TestNear(t *testing.T) { // P14.1
	for text, want := range map[string]api.Step{
		"1 0": {Z: 1}, "-1 -0": {Z: -1}, "1+2i 0.5": {Z: 1 + 2i, Tol: 0.5}, "-i 1e80": {Z: -1i, Tol: 1e80}, "-0 1000000001": {Tol: 1000000001}, "0.5-0i 2+0i": {Z: 0.5, Tol: 2}, "1e80-1e-80i 1e-80": {Z: 1e80 - 1e-80i, Tol: 1e-80},
	} {
		want.Kind = api.Near
		test := testOf(t, "{ near "+text+" }")
		if got := test.Steps; len(got) != 1 || told(suiteOf(got...)) != told(suiteOf(want)) {
			t.Errorf("near %s is %v", text, got)
		}
	}
	for _, tol := range []string{"-1", "-1e-80", "-0.5", "1i", "-i", "1+2i", "0+1e-80i", `"1"`, "one", "}", "(", ""} {
		wrong(t, "{ near 1 ^"+tol, api.ErrToken)
		wrong(t, "{ near -1+2i ^"+tol, api.ErrToken)
	}
	for _, s := range []string{"{ near^", "{ near ^i 1", `{ near ^"1" 1`, "{ near ^}", "{ near 1^", "{ near 1 1 ^1"} {
		wrong(t, s, api.ErrToken)
	}
}

// suiteOf is a suite of one test of these steps.
func suiteOf(steps ...api.Step) api.Suite {
	return api.Suite{Groups: []api.Group{{Tests: []api.Test{{Steps: steps}}}}}
}

func TestWords(t *testing.T) { // P14.1: another word, and one where none may stand
	for _, w := range []string{"grp", "s", "Suite", "suites", "tests", "i", "xfails", strings.Repeat("w", 100), "loops", "agin"} {
		for _, ahead := range []string{"", `suite "s" `, `suite "s" board "b" {} `, `suite "s" group "g" {} `, `suite "s" group "g" { `, inTest("{} "), inTest(""), inTest("budget 5 "), inTest(`xfail a="" `), inTest("{ "), inTest("{ pass "), inTest("{ expect 5 { "), inTest(`{ expect 5 { exact "a" `), inTest("{ expect 5 { late "), inTest("{ expect 5 { late { } ")} {
			flawed(t, ahead+"^"+w, api.ErrWord)
			flawed(t, ahead+"^"+w+` "s" { }`, api.ErrWord)
		}
	}
	for _, w := range []string{"grp", "suite", "board", "test", "xfail", "untested", "again", "pass", "late", "i"} {
		for _, ahead := range []string{"suite ", `suite "s" board `, `suite "s" board "b" `, `suite "s" board "b" { a `, `suite "s" board "b" { a = `, `suite "s" group `, `suite "s" group "g" `, inTest("budget "), inTest(`xfail (a="" `), inTest("xfail a "), inTest("xfail a ! "), inTest("xfail a = "), inTest("{ send "), inTest("{ loop "), inTest("{ loop 5 "), inTest("{ expect 5 "), inTest("{ near 1 "), inTest("{ wait "), inTest("{ expect 5 { exact "), inTest(`{ expect 5 { exact "a" again `), inTest("{ expect 5 { late again ")} {
			flawed(t, ahead+"^"+w, api.ErrToken)
			flawed(t, ahead+"^"+w+` "s" { }`, api.ErrToken)
		}
	}
	for text, code := range map[string]api.Errno{
		`suite "s" group "g" {} ^board "b" {}`: api.ErrWord, `suite "s" ^suite "s"`: api.ErrWord, `suite "s" ^test "t" {}`: api.ErrWord, `^group "g" {}`: api.ErrWord, `^"suite" "s"`: api.ErrToken, `suite "s" ^"group" "g" {}`: api.ErrToken, `suite "s" group "g" { ^"test" "t" {} }`: api.ErrToken, `suite "s" ^}`: api.ErrToken, `suite "s" ^"s"`: api.ErrToken,
		inTest("{ ^late"): api.ErrWord, inTest("{ ^again"): api.ErrWord, inTest(`{ ^"pass"`): api.ErrToken, inTest("{ ^{"): api.ErrToken, inTest("{ ^5"): api.ErrToken, inTest("{ expect 5 { ^send"): api.ErrWord, inTest(`{ expect 5 { late ^"a"`): api.ErrToken, inTest("{ expect 5 { exact ^{"): api.ErrToken, inTest("{ expect 5 { ^{"): api.ErrToken, inTest(`{ expect 5 { late ^"again" {`): api.ErrToken, inTest(`{ expect 5 { late ^"{" }`): api.ErrToken, inTest("{ expect 5 { late again ^again"): api.ErrToken, inTest(`{ send "a" ^"b"`): api.ErrToken, inTest("{ pass ^5"): api.ErrToken,
	} {
		flawed(t, text, code)
	}
}

func TestNames(t *testing.T) { // P14.1: each word is a name of a property
	for _, w := range strings.Fields("suite board group test budget xfail untested unsupported send expect loop near pass fail wait exact glob regex late eof death full again i e5 a-1_") {
		if got := testOf(t, `xfail `+w+` = "1" & `+w+` != "2" untested`).Xfail; len(got) != 1 || len(got[0].Kids) != 2 || got[0].Kids[0].Name != w || got[0].Kids[1].Name != w {
			t.Errorf("%s: %v", w, got)
		}
		has(t, `suite "s" board "b" { `+w+` = "1" `+w+` = "2" }`, api.Suite{Name: "s", Boards: []api.Board{{Name: "b", Props: []api.Prop{{Name: w, Val: "1"}, {Name: w, Val: "2"}}}}})
	}
	for _, s := range []string{`"a" = "1"`, `5 = "1"`, `= "1"`, `a "1"`, `a ! "1"`, `a != "1"`, `a = 1`, `a = b`, `a == "1"`, `a = "1" , b = "1"`, `a = "1" & b = "1"`, `{ }`} {
		check(t, `suite "s" board "b" { `+s+` }`)
	}
}

func TestConditions(t *testing.T) { // P14.1
	a, b, c, d := is("a", "1"), is("b", "2"), isnt("c", "3"), is("d", "")
	not := func(c api.Cond) api.Cond { return of(api.Not, c) }
	for s, want := range map[string]api.Cond{
		"a": a, "c": c, "(a)": a, "((a))": a, "((((((((a))))))))": a,
		"!a": not(a), "!c": not(c), "!!a": not(not(a)), "!(a)": not(a), "(!a)": not(a), "!(!(a))": not(not(a)), "!!!!!!!!a": not(not(not(not(not(not(not(not(a)))))))),
		"a & b": of(api.And, a, b), "a | b": of(api.Or, a, b), "a & b & c": of(api.And, a, b, c), "a | b | c": of(api.Or, a, b, c), "a & a": of(api.And, a, a), "(a & b)": of(api.And, a, b), "(a | b)": of(api.Or, a, b), "(a) & (b)": of(api.And, a, b),
		"a & b | c": of(api.Or, of(api.And, a, b), c), "a | b & c": of(api.Or, a, of(api.And, b, c)), "a & b | c & d": of(api.Or, of(api.And, a, b), of(api.And, c, d)), "a | b & c | d": of(api.Or, a, of(api.And, b, c), d),
		"a & (b | c)": of(api.And, a, of(api.Or, b, c)), "(a | b) & c": of(api.And, of(api.Or, a, b), c), "(a & b) & c": of(api.And, of(api.And, a, b), c), "a & (b & c)": of(api.And, a, of(api.And, b, c)), "(a | b) | c": of(api.Or, of(api.Or, a, b), c), "a | (b | c) | d": of(api.Or, a, of(api.Or, b, c), d), "a | (b & c)": of(api.Or, a, of(api.And, b, c)),
		"!a & b": of(api.And, not(a), b), "!(a & b)": not(of(api.And, a, b)), "!a | !b": of(api.Or, not(a), not(b)), "!(a | b) & !c": of(api.And, not(of(api.Or, a, b)), not(c)), "!(!a & b | c)": not(of(api.Or, of(api.And, not(a), b), c)),
		"((a | b) & (c | d)) | !(a & (b | !(c & d)))": of(api.Or, of(api.And, of(api.Or, a, b), of(api.Or, c, d)), not(of(api.And, a, of(api.Or, b, not(of(api.And, c, d)))))),
	} {
		text := spelt(s)
		for _, behind := range []string{" untested", " {}", ` xfail x="" {}`} {
			got := testOf(t, "xfail "+text+behind).Xfail[0]
			if x, y := told(api.Suite{Groups: []api.Group{{Tests: []api.Test{{Xfail: []api.Cond{got}}}}}}), told(api.Suite{Groups: []api.Group{{Tests: []api.Test{{Xfail: []api.Cond{want}}}}}}); x != y {
				t.Errorf("%s is %v, not %v", s, got, want)
			}
		}
	}
	for _, s := range []string{"", "!", "(", ")", "()", "a b", "a &", "& a", "a | | b", "a & | b", "a | & b", "a !", "a ! b", "(a", "a)", "(a))", "((a)", "!(a", "a & (b", "a & !", "! & a", "a (b)", "a & untested", "(a & b) c", "=", "{}", "5"} {
		check(t, inTest("xfail "+spelt(s)))
		check(t, inTest("xfail "+spelt(s)+" {} }"))
		check(t, inTest("xfail "+spelt(s)+" untested }"))
	}
	for _, s := range []string{"a", "a =", `a = b`, `a = 5`, `a ! "1"`, `a = ! "1"`, `a == "1"`, `a !! = "1"`, `"a" = "1"`, `a = "1" "2"`, `5 = "1"`, `a = "1" b = "2"`} {
		check(t, inTest("xfail "+s+" {} }"))
	}
	for _, s := range []string{"xfail^", "xfail a^", "xfail a !^", "xfail a =^", `xfail a = "" &^`, `xfail a = "" |^`, "xfail !^", "xfail (^", `xfail (a = ""^`, `xfail a = ""^`, `xfail (a = "" ^untested`, `xfail a = ""^) {}`, "xfail ^)", "xfail (^) {}", "xfail ^{}", `xfail a ! ^"1"`, `xfail a ^"1"`} {
		wrong(t, s, api.ErrToken)
	}
}

// spelt is a condition's text, whose letters a to d stand for a part each.
func spelt(s string) string {
	return strings.NewReplacer("a", `a = "1"`, "b", `b = "2"`, "c", `c != "3"`, "d", `d = ""`, "untested", "untested").Replace(s)
}

func TestDeepBlocks(t *testing.T) { // P14.1: six { are open within a test, and no more
	five := "{ " + strings.Repeat("loop 1 { ", 5)
	steps := testOf(t, five+"pass "+strings.Repeat("} ", 6)).Steps
	for range 5 {
		steps = steps[0].Steps
	}
	if len(steps) != 1 || steps[0].Kind != api.Pass {
		t.Errorf("six { deep stands %v", steps)
	}
	four := "{ " + strings.Repeat("loop 1 { ", 4)
	three := `{ expect 1 { exact "a" { expect 1 { full { `
	testOf(t, four+"expect 1 { } loop 1 { } expect 2 { } } } } } }")
	testOf(t, three+"expect 1 { } loop 1 { } } eof { } } } } }")
	for s, code := range map[string]api.Errno{
		five + "loop 1 ^{": api.ErrDeep, five + "loop 1 ^{ pass }": api.ErrDeep, five + "expect 1 ^{ }": api.ErrDeep, five + "pass pass loop 1 ^{": api.ErrDeep, five + "} loop 1 { loop 1 ^{": api.ErrDeep,
		five + "loop 1 ^x": api.ErrToken, five + "loop 1 ^}": api.ErrToken, five + "loop 1^": api.ErrToken, five + "loop ^{": api.ErrToken, five + "^{": api.ErrToken, five + "expect ^-1 {": api.ErrToken,
		four + "expect 1 { late ^{ pass": api.ErrDeep, four + "expect 1 { late again ^{ pass": api.ErrDeep, four + `expect 1 { regex "a" ^{`: api.ErrDeep, four + "expect 1 { late ^agin {": api.ErrWord, four + "expect 1 { late ^= {": api.ErrToken, four + "expect 1 { ^{": api.ErrToken,
		three + "expect 1 { eof ^{": api.ErrDeep, three + "loop 1 { loop 1 ^{": api.ErrDeep, "{ ^{": api.ErrToken,
	} {
		wrong(t, s, code)
	}
	// What a test opens is closed at its end: { beside each other, and those of boards and groups, don't count.
	loops := `test "t" { loop 1 { } loop 1 { } loop 1 { } } `
	has(t, `suite "s" `+strings.Repeat(`board "b" { } `, 10)+strings.Repeat(`group "g" { `+loops+`test "t" { } test "u" `+five+strings.Repeat("} ", 7), 9), manyGroups(9))
}

// manyGroups are ten boards, and so many groups of three tests each, of which the last is six { deep.
func manyGroups(groups int) api.Suite {
	s := api.Suite{Name: "s"}
	for range 10 {
		s.Boards = append(s.Boards, api.Board{Name: "b"})
	}
	var deep []api.Step
	for range 5 {
		deep = []api.Step{{Kind: api.Loop, N: 1, Steps: deep}}
	}
	loop := api.Step{Kind: api.Loop, N: 1}
	for range groups {
		s.Groups = append(s.Groups, api.Group{Name: "g", Tests: []api.Test{{Name: "t", Budget: 1000, Steps: []api.Step{loop, loop, loop}}, {Name: "t", Budget: 1000}, {Name: "u", Budget: 1000, Steps: deep}}})
	}
	return s
}

func TestDeepConditions(t *testing.T) { // P14.1: eight ! and ( are open within an xfail, and no more
	for mix := range 256 {
		signs, behind := "", ""
		for i := range 8 {
			if mix>>i&1 == 0 {
				signs += "!"
			} else {
				signs += "("
				behind += ")"
			}
		}
		testOf(t, "xfail "+signs+`a="1"`+behind+" {}")
		testOf(t, "xfail "+signs+`a!="1"`+behind+" {}") // a ! ahead of a = opens nothing
		wrong(t, "xfail "+signs+`^!a="1"`, api.ErrDeep)
		wrong(t, "xfail "+signs+`^(a="1"`, api.ErrDeep)
		wrong(t, `xfail a="" | b="" & `+signs+"^!", api.ErrDeep)
		wrong(t, "xfail "+signs+`a="1"`+behind+` {} test "u" xfail `+signs+"^!", api.ErrDeep)
		wrong(t, "xfail "+signs+`a="1"`+behind+" xfail "+signs+"^(", api.ErrDeep)
		wrong(t, "xfail "+signs+"^)", api.ErrToken)
	}
	// What isn't open any more doesn't count.
	testOf(t, "xfail "+strings.Repeat(`!(!a="") & (b="") | `, 20)+`((((((((c=""))))))))`+` xfail !!!!!!!!a="" {}`)
	testOf(t, `xfail (((((((!a="" & !b="" | !c!=""))))))) & !!!!!!!!a="" { loop 1 { loop 1 { loop 1 { loop 1 { loop 1 { } } } } } }`)
	for s, code := range map[string]api.Errno{
		`xfail (((((((!a="" & !^!b=""`: api.ErrDeep, `xfail (((((((!a="" & !^(b=""`: api.ErrDeep, `xfail (((((((!a="" & !b="" & c!="" & (d="" & ^!e=""`: api.ErrDeep, `xfail (((((((!a="") & !(b="") & ((^((c=""`: api.ErrDeep, `xfail !(!a="" | !(!(!(^!b="" & !(c=""`: api.ErrDeep,
		`xfail ((((((((a="" ^! `: api.ErrToken, `xfail ((((((((a ! ^! `: api.ErrToken, `xfail ((((((((a="" ^( `: api.ErrToken, "xfail ((((((((^": api.ErrToken,
	} {
		wrong(t, s, code)
	}
}

func TestFlawsOfTokens(t *testing.T) { // P14.1, DOC P1: layer 13's are named first
	blanks := strings.Repeat(" ", 65536)
	for text, code := range map[string]api.Errno{
		"^?": api.ErrChar, `suite "s" ^?`: api.ErrChar, `suite 3 ^?`: api.ErrChar, `grp "s" } ^2x`: api.ErrNum, `grp ^"s`: api.ErrOpen, `^? grp`: api.ErrChar, `^2x suite 3`: api.ErrNum, `"^\q" suite`: api.ErrChar, `^"suite`: api.ErrOpen, `suite "s" ^2x grp`: api.ErrNum,
		inTest("budget -1 { loop 1 { } ^\""): api.ErrOpen, inTest("xfail !!!!!!!!!^?"): api.ErrChar, inTest("{ loop 1 { loop 1 { loop 1 { loop 1 { loop 1 { loop 1 { ^'"): api.ErrChar,
		"^suite 3" + blanks: api.ErrLong, "^?" + blanks: api.ErrLong, `^suite "s"` + blanks: api.ErrLong, "^suite 3" + blanks[7-1:]: api.ErrLong, "suite ^3" + blanks[7:]: api.ErrToken, "suite" + blanks[5:] + "^": api.ErrToken,
	} {
		flawed(t, text, code)
	}
	has(t, `suite "s"`+blanks[9:], api.Suite{Name: "s"})
}

func TestLongOnes(t *testing.T) { // P14.1: as often as one likes
	props := strings.Repeat(`a="" `, 13000)
	if s, flaw := Parse(`suite "s" board "b" {` + props + "}"); flaw.Code != api.OK || len(s.Boards[0].Props) != 13000 {
		t.Errorf("many properties: %v", flaw)
	}
	if s, flaw := Parse(`suite "s" ` + strings.Repeat(`board"b"{}`, 6000)); flaw.Code != api.OK || len(s.Boards) != 6000 {
		t.Errorf("many boards: %v", flaw)
	}
	if s, flaw := Parse(`suite "s" ` + strings.Repeat(`group"g"{}`, 6000)); flaw.Code != api.OK || len(s.Groups) != 6000 {
		t.Errorf("many groups: %v", flaw)
	}
	if s, flaw := Parse(`suite "s" group "g" {` + strings.Repeat(`test"t"{}`, 7000) + "}"); flaw.Code != api.OK || len(s.Groups[0].Tests) != 7000 {
		t.Errorf("many tests: %v", flaw)
	}
	if steps := testOf(t, "{"+strings.Repeat("pass ", 3000)+"}").Steps; len(steps) != 3000 {
		t.Errorf("many steps: %d", len(steps))
	}
	if clauses := testOf(t, "{ expect 1 {"+strings.Repeat("late{}", 3000)+"} }").Steps[0].Clauses; len(clauses) != 3000 {
		t.Errorf("many clauses: %d", len(clauses))
	}
	if x := testOf(t, strings.Repeat(`xfail a="" `, 3000)+"{}").Xfail; len(x) != 3000 {
		t.Errorf("many xfails: %d", len(x))
	}
	for sign, kind := range map[string]int{"|": api.Or, "&": api.And} {
		if x := testOf(t, "xfail "+strings.Repeat(`a=""`+sign, 2999)+`a="" {}`).Xfail[0]; len(x.Kids) != 3000 || x.Kind != kind {
			t.Errorf("many parts: %d", len(x.Kids))
		}
	}
	for _, c := range []string{"{", "(", "!", "suite ", "test", `"`, `""`, "5 "} {
		check(t, strings.Repeat(c, 65536/len(c)))
		check(t, `suite "s" group "g" { test "t" xfail `+strings.Repeat(c, 65000/len(c)))
		check(t, `suite "s" group "g" { test "t" { loop 1 `+strings.Repeat(c, 65000/len(c)))
	}
}

// someTokens are tokens of all kinds.
func someTokens() []string {
	return strings.Fields(`suite board group test budget xfail untested unsupported send expect loop near pass fail wait exact glob regex late eof death full again foo { } ( ) = ! & | "" "{" "pass" 0 5 -1 2.5 1i 1e9 1e10`)
}

// texts are the tokens' texts of a text.
func texts(t *testing.T, text string) []string {
	ts, flaw := tok.Tokens(text)
	if flaw.Code != api.OK {
		t.Fatal(flaw)
	}
	var out []string
	for _, one := range ts {
		if one.Kind == api.Quote {
			one.Text = tok.Quoted(one.Text)
		}
		out = append(out, one.Text)
	}
	return out
}

func TestEachToken(t *testing.T) { // P14.1: left out, doubled, put in another's place, put ahead of one, and the last one
	all := texts(t, whole)
	for i := range len(all) + 1 {
		check(t, joined(all[:i]))
		check(t, joined(all[i:]))
		for _, one := range someTokens() {
			check(t, joined(slices.Concat(all[:i], []string{one}, all[i:])))
			if i < len(all) {
				check(t, joined(slices.Concat(all[:i], []string{one}, all[i+1:])))
			}
		}
		if i < len(all) {
			check(t, joined(slices.Concat(all[:i], all[i+1:])))
			check(t, joined(slices.Concat(all[:i+1], all[i:])))
		}
		if i+1 < len(all) {
			check(t, joined(slices.Concat(all[:i], []string{all[i+1], all[i]}, all[i+2:])))
		}
	}
}

func TestAllShort(t *testing.T) { // P14.1
	for _, ahead := range []string{"", `suite "s"`, `suite "s" board "b"`, `suite "s" board "b" { a`, `suite "s" group "g"`, inTest(""), inTest("budget"), inTest("xfail"), inTest(`xfail a=""`), inTest(`xfail (a=""`), inTest(`xfail !`), inTest("{"), inTest("{ expect 5 {"), inTest(`{ expect 5 { glob "a"`), inTest("{ near"), inTest("{ loop 1 { loop 1 { loop 1 { loop 1 { loop 1"), inTest("xfail !!!!!!!")} {
		for _, a := range someTokens() {
			check(t, ahead+" "+a)
			for _, b := range someTokens() {
				check(t, ahead+" "+a+" "+b)
				for _, c := range []string{"{", "}", "=", `""`, "5", "pass"} {
					check(t, ahead+" "+a+" "+b+" "+c)
				}
			}
		}
	}
}

func TestAnySuites(t *testing.T) { // P14.1
	r := rand.New(rand.NewSource(14))
	deep := 0
	for range 4000 {
		s, tokens := made(r)
		text := loose(r, tokens)
		if len(text) > 65536 {
			continue
		}
		has(t, text, s)
		if strings.Contains(text, "((((") || strings.Count(text, "{") > 30 {
			deep++
		}
		at := r.Intn(len(tokens))
		some := someTokens()
		one := some[r.Intn(len(some))]
		check(t, loose(r, slices.Concat(tokens[:at], tokens[at+1:])))
		check(t, loose(r, slices.Concat(tokens[:at+1], tokens[at:])))
		check(t, loose(r, slices.Concat(tokens[:at], []string{one}, tokens[at:])))
		check(t, loose(r, slices.Concat(tokens[:at], []string{one}, tokens[at+1:])))
		check(t, text[:r.Intn(len(text))])
	}
	if deep < 100 {
		t.Errorf("%d of 4000 suites are great", deep)
	}
}

func TestAnyTokens(t *testing.T) { // P14.1
	r := rand.New(rand.NewSource(15))
	some := someTokens()
	for range 30000 {
		tokens := texts(t, []string{`suite "s"`, inTest(""), inTest("xfail"), inTest("{"), inTest("{ expect 5 {")}[r.Intn(5)])
		for range r.Intn(12) {
			tokens = append(tokens, some[r.Intn(len(some))])
		}
		check(t, joined(tokens))
	}
}
