package print

import (
	"fmt"
	"math/rand"
	"reflect"
	"slices"
	"strings"
	"testing"

	"colloquy/api"
	"colloquy/suite"
	"colloquy/tok"
)

// back: a text's suite has a text that is parsed as the same suite, and that has itself as its text.
func back(t *testing.T, text string) string {
	t.Helper()
	s, flaw := suite.Parse(text)
	if flaw.Code != api.OK {
		t.Fatalf("%s: %v", text, flaw)
	}
	own := Text(s)
	again, flaw := suite.Parse(own)
	if flaw.Code != api.OK || !suite.Same(s, again) {
		t.Fatalf("%s: %s, which is parsed as %v, %v, not %v", text, own, again, flaw, s)
	}
	if third := Text(again); third != own {
		t.Fatalf("%s: %s, whose text is %s", text, own, third)
	}
	return own
}

func TestBack(t *testing.T) { // P15.2, P15.3
	if own := back(t, form); own != form {
		t.Errorf("%s", own)
	}
	all := `"`
	for i := range 256 {
		all += fmt.Sprintf(`\x%02x`, i)
	}
	all += `"`
	for text, want := range map[string]string{
		`suite ""`:               "suite \"\"\n",
		"suite#\n\"\\x41\"\t":    "suite \"A\"\n",
		`suite "s" board "b" {}`: "suite \"s\"\nboard \"b\" {\n}\n",
		`suite "s" group "g" { test "t" { pass } }`:                                          "suite \"s\"\ngroup \"g\" {\n  test \"t\" budget 1000 {\n    pass\n  }\n}\n",
		`suite "s" group "g" { test "t" budget 5.0 xfail ((a="")&((b!=""))) untested }`:      "suite \"s\"\ngroup \"g\" {\n  test \"t\" budget 5 xfail a = \"\" & b != \"\" untested\n}\n",
		`suite "s" group "g" { test "t" budget 1e9 xfail !(!(!(a=""))) unsupported }`:        "suite \"s\"\ngroup \"g\" {\n  test \"t\" budget 1000000000 xfail !!!a = \"\" unsupported\n}\n",
		`suite "s" group "g" { test "t" budget -0 { near -0.50-i 1e3 near +i 0.10 } }`:       "suite \"s\"\ngroup \"g\" {\n  test \"t\" budget 0 {\n    near -0.5-1i 1000\n    near 0+1i 0.1\n  }\n}\n",
		`suite "s" group "g" { test "t" xfail (a=""&b="")|(c=""|d="")&(e=""&f="") {} }`:      "suite \"s\"\ngroup \"g\" {\n  test \"t\" budget 1000 xfail a = \"\" & b = \"\" | (c = \"\" | d = \"\") & (e = \"\" & f = \"\") {\n  }\n}\n",
		`suite "s" group "g" { test "t" xfail ((a=""|b="")|c="")|(d=""|e="") xfail x="" {}}`: "suite \"s\"\ngroup \"g\" {\n  test \"t\" budget 1000 xfail ((a = \"\" | b = \"\") | c = \"\") | (d = \"\" | e = \"\") xfail x = \"\" {\n  }\n}\n",
	} {
		if own := back(t, text); own != want {
			t.Errorf("%s: %s", text, own)
		}
	}
	back(t, strings.ReplaceAll(`suite Q board Q { a = Q } group Q { test Q xfail a = Q | b != Q { send Q expect 1 { exact Q { } glob Q again { } regex Q { } } } }`, "Q", all))
}

func TestDeepBack(t *testing.T) { // P15.2, P15.3: as much as may be open
	in := func(s string) string { return `suite "s" group "g" { test "t" ` + s + " }" }
	back(t, in("{ "+strings.Repeat("loop 1 { ", 5)+strings.Repeat("} ", 6)))
	back(t, in("{ expect 1 { late { expect 1 { full again { expect 0 { } loop 0 { } } } } } }"))
	for mix := range 256 {
		signs, behind := "", ""
		for i := range 8 {
			switch {
			case mix>>i&1 == 0:
				signs += "!"
			case i%2 == 0:
				signs += `(x="" & `
				behind = `)` + behind
			default:
				signs += `(x="" | y="" & `
				behind = ` & z="")` + behind
			}
		}
		back(t, in("xfail "+signs+`a="1"`+behind+" {}"))
		back(t, in(`xfail b="" | c="" & `+signs+`a!="1"`+behind+" & d=\"\" | e=\"\" {}"))
	}
}

func TestBounds(t *testing.T) { // P15.2: at most MaxText bytes, and fifteen digits in a row
	near := func(z string) string { return `suite "s" group "g" { test "t" { near ` + z + " 0 } }" }
	for _, z := range []string{"123456789012345", "1.23456789012345", "0.12345678901234", "1.2345678901e-4", "0.00012345678901", "1e80-1e-80i", "99999999999999e66", "0.00000000000001", "1e-9", "123456", "1234567", "1e21", "100000000000000e9", "-123456.789012345-0.001i"} {
		back(t, near(z))
	}
	s, _ := suite.Parse(near("1.23456789012345e-4")) // the shortest text of this has more digits in a row
	if _, flaw := suite.Parse(Text(s)); flaw.Code != api.ErrNum {
		t.Errorf("%s: %v", Text(s), flaw)
	}
	head, end := "suite \"", "\"\ngroup \"g\" {\n  test \"t\" budget 1000 {\n  }\n}\n"
	for _, size := range []int{65535, 65536, 65537} {
		name := strings.Repeat("n", size-len(head)-len(end))
		s, flaw := suite.Parse(head + name + `"group"g"{test"t"{}}`)
		own := Text(s)
		if flaw.Code != api.OK || own != head+name+end || len(own) != size {
			t.Fatalf("%d bytes: %v, %d", size, flaw, len(own))
		}
		if again, flaw := suite.Parse(own); flaw.Code == api.OK != (size <= 65536) || size <= 65536 && !suite.Same(s, again) {
			t.Errorf("%d bytes: %v", size, flaw)
		}
	}
}

func TestLongNames(t *testing.T) { // layer 14 parses them, but they make a condition that isn't right
	long := strings.Repeat("w", 41)
	s, flaw := suite.Parse(`suite "s" board "b" { ` + long + ` = "" } group "g" { test "t" xfail ` + long + ` = "" xfail a = "" untested }`)
	if flaw.Code != api.OK || len(s.Groups[0].Tests[0].Xfail) != 2 || Text(s) != "suite \"s\"\nboard \"b\" {\n  "+long+" = \"\"\n}\ngroup \"g\" {\n  test \"t\" budget 1000 xfail a = \"\" untested\n}\n" {
		t.Errorf("%v: %s", flaw, Text(s))
	}
	back(t, `suite "s" board "b" { `+long+` = "" } group "g" { test "t" xfail `+long[:40]+` = "" untested }`)
}

// loose are a text's tokens with any blanks and remarks between.
func loose(r *rand.Rand, text string) string {
	some := []string{" ", "\t", "\n", "\r", "# a {\n", " \n "}
	ts, _ := tok.Tokens(text)
	var out strings.Builder
	for _, one := range ts {
		if one.Kind == api.Quote {
			one.Text = tok.Quoted(one.Text)
		}
		out.WriteString(one.Text + some[r.Intn(len(some))])
	}
	return out.String()
}

func TestAnyBack(t *testing.T) { // P15.2, P15.3
	r := rand.New(rand.NewSource(16))
	m := maker{r: r, parsed: true}
	backs := 0
	for range 4000 {
		s := m.suite()
		for _, g := range s.Groups {
			for i := range g.Tests {
				g.Tests[i].Xfail = slices.DeleteFunc(g.Tests[i].Xfail, func(c api.Cond) bool { return opens(c) > 8 })
			}
		}
		text := Text(s)
		got, flaw := suite.Parse(text)
		if flaw.Code == api.ErrNum { // too many digits in a row
			continue
		}
		if flaw.Code != api.OK || !suite.Same(s, got) {
			t.Fatalf("%s: %v, %#v, not %#v", text, flaw, got, s)
		}
		if own := back(t, loose(r, text)); own != text {
			t.Fatalf("%s, not %s", own, text)
		}
		backs++
	}
	if backs < 3000 {
		t.Errorf("%d of 4000", backs)
	}
}

// opens is how many ! and ( are open in a condition's text at most.
func opens(c api.Cond) int {
	most := 0
	for _, kid := range c.Kids {
		n := opens(kid)
		if kid.Kind == api.Or || kid.Kind == api.And && c.Kind != api.Or {
			n++
		}
		if c.Kind == api.Not {
			n++
		}
		most = max(most, n)
	}
	return most
}

func TestCondBack(t *testing.T) { // P15.2: each kind in each other
	some := []api.Cond{is("a", "1"), isnt("b", "")}
	for range 2 {
		var more []api.Cond
		for _, a := range some {
			more = append(more, a, of(api.Not, a))
			for _, b := range some {
				more = append(more, of(api.And, a, b), of(api.Or, a, b))
			}
		}
		some = more
	}
	for _, c := range some {
		s := suiteOf(api.Test{Name: "t", Kind: api.Untested, Budget: 5, Xfail: []api.Cond{c}})
		if got, flaw := suite.Parse(Text(s)); flaw.Code != api.OK || !suite.Same(got, s) {
			t.Fatalf("%s: %v", Text(s), flaw)
		}
	}
}

// whole are all bytes of something, with what stands behind its lists' length.
func whole(v reflect.Value) string {
	out := ""
	switch v.Kind() {
	case reflect.Struct:
		for i := range v.NumField() {
			out += whole(v.Field(i)) + ","
		}
	case reflect.Slice:
		for i := range v.Cap() {
			out += whole(v.Slice(0, v.Cap()).Index(i)) + ";"
		}
		out += fmt.Sprint(v.Len())
	default:
		out = fmt.Sprintf("%#v", v)
	}
	return out
}

func TestArgumentsStay(t *testing.T) { // P15.4
	r := rand.New(rand.NewSource(17))
	for range 150 {
		s := maker{r: r}.suite()
		for i := range s.Groups {
			s.Groups[i].Tests = slices.Grow(s.Groups[i].Tests, 2)
		}
		c, ss := maker{r: r}.cond(5), maker{r: r}.steps(5)
		before := whole(reflect.ValueOf(s)) + whole(reflect.ValueOf(c)) + whole(reflect.ValueOf(ss))
		Text(s)
		Cond(c)
		Steps(ss, r.Intn(30))
		if whole(reflect.ValueOf(s))+whole(reflect.ValueOf(c))+whole(reflect.ValueOf(ss)) != before {
			t.Fatalf("%v, %v or %v has changed", s, c, ss)
		}
	}
}

func TestNothingKept(t *testing.T) { // DOC P2: answers hang on the arguments alone
	r := rand.New(rand.NewSource(18))
	var suites []api.Suite
	var texts []string
	for range 200 {
		s := maker{r: r}.suite()
		suites, texts = append(suites, s), append(texts, Text(s))
	}
	for i, s := range slices.Backward(suites) {
		if Text(s) != texts[i] {
			t.Fatalf("%v: %s, not %s", s, Text(s), texts[i])
		}
	}
}
