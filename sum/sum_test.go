package sum

import (
	"math"
	"strings"
	"testing"

	"colloquy/api"
	"colloquy/trace"
)

// results are results of verdicts, each of the name t.
func results(verdicts ...int) []api.Result {
	var rs []api.Result
	for _, v := range verdicts {
		rs = append(rs, api.Result{Name: "t", Verdict: v})
	}
	return rs
}

func TestExample(t *testing.T) { // P20.1
	s := Sum{Suite: "s", Board: "b", Parts: []Part{{"g", results(api.PASS)}}}
	text := "Test run of s\nBoard b\ngroup g\nPASS: t\n# PASS 1\n# end\n"
	if got := Text(s); got != text {
		t.Errorf("%q", got)
	}
	parsed, code, at := Parse(text)
	if !same(parsed, s) || code != api.OK || at != 0 {
		t.Errorf("%v, %d, %d", parsed, code, at)
	}
}

// TestTexts holds sums and their texts against each other, both ways.
func TestTexts(t *testing.T) { // P20.1, P20.2
	every := results(1, 2, 3, 4, 5, 6, 7)
	for text, s := range map[string]Sum{
		"Test run of s\nBoard b\n# end\n":                             {Suite: "s", Board: "b"},
		"Test run of s\nBoard b\ngroup g\n# end\n":                    {"s", "b", []Part{{"g", nil}}},
		"Test run of s\nBoard b\ngroup g\ngroup g\n# end\n":           {"s", "b", []Part{{"g", nil}, {"g", nil}}},
		"Test run of b\nBoard b\ngroup b\nFAIL: b\n# FAIL 1\n# end\n": {"b", "b", []Part{{"b", []api.Result{{Name: "b", Verdict: api.FAIL}}}}},
		"Test run of s\nBoard b\ngroup g\nPASS: t\nPASS: t\ngroup h\ngroup g\nXPASS: t\nPASS: t\n# PASS 3\n# XPASS 1\n# end\n":                                                                                                {"s", "b", []Part{{"g", results(1, 1)}, {"h", nil}, {"g", results(3, 1)}}},
		"Test run of s\nBoard b\ngroup g\nPASS: t\nFAIL: t\nXPASS: t\nXFAIL: t\nUNRESOLVED: t\nUNTESTED: t\nUNSUPPORTED: t\n# PASS 1\n# FAIL 1\n# XPASS 1\n# XFAIL 1\n# UNRESOLVED 1\n# UNTESTED 1\n# UNSUPPORTED 1\n# end\n": {"s", "b", []Part{{"g", every}}},
		"Test run of s\nBoard b\ngroup g\nUNSUPPORTED: t\nFAIL: t\nUNSUPPORTED: t\n# FAIL 1\n# UNSUPPORTED 2\n# end\n":                                                                                                        {"s", "b", []Part{{"g", results(7, 2, 7)}}},
		"Test run of s\nBoard b\ngroup g\n" + strings.Repeat("XFAIL: t\n", 1234) + "# XFAIL 1234\n# end\n":                                                                                                                    {"s", "b", []Part{{"g", manyResults(api.XFAIL, 1234)}}},
	} {
		if got := Text(s); got != text || !Right(s) {
			t.Errorf("%q, not %q", got, text)
		}
		if got, code, at := Parse(text); !same(got, s) || code != api.OK || at != 0 {
			t.Errorf("%q: %v, %d, %d", text, got, code, at)
		}
	}
}

func manyResults(v, n int) []api.Result {
	var rs []api.Result
	for range n {
		rs = append(rs, results(v)...)
	}
	return rs
}

// oddNames are names, and how they are written.
var oddNames = map[string]string{
	"a b": "a b", " a": `\20a`, "a ": `a\20`, " ": `\20`, "\n": `\0a`, "a\nb": `a\0ab`, "\\": `\5c`, `\0a`: `\5c0a`, "\x00\x7f\x80\xff": `\00\7f\80\ff`, "é": `\c3\a9`,
	": ": `:\20`, "a: b": "a: b", ": b": ": b", "PASS: t": "PASS: t", "PASS:": "PASS:", "x\nPASS: y": `x\0aPASS: y`, "# end": "# end", "\n# end\n": `\0a# end\0a`, "# PASS 1": "# PASS 1",
	"group g": "group g", "x\ngroup g": `x\0agroup g`, "Board b": "Board b", "Test run of s": "Test run of s", "#": "#", "1": "1", strings.Repeat("n", 80): strings.Repeat("n", 80), strings.Repeat("\n", 80): strings.Repeat(`\0a`, 80),
}

func TestOddNames(t *testing.T) { // P20.1, P20.2, P20.3
	for is, written := range oddNames {
		for _, x := range []struct {
			s                           Sum
			suite, board, group, result string
		}{
			{Sum{is, "b", []Part{{"g", results(1)}}}, written, "b", "g", "t"},
			{Sum{"s", is, []Part{{"g", results(1)}}}, "s", written, "g", "t"},
			{Sum{"s", "b", []Part{{is, results(1)}}}, "s", "b", written, "t"},
			{Sum{"s", "b", []Part{{"g", []api.Result{{Name: is, Verdict: 1}}}}}, "s", "b", "g", written},
			{Sum{is, is, []Part{{is, []api.Result{{Name: is, Verdict: 1}}}}}, written, written, written, written},
		} {
			text := "Test run of " + x.suite + "\nBoard " + x.board + "\ngroup " + x.group + "\nPASS: " + x.result + "\n# PASS 1\n# end\n"
			if got := Text(x.s); got != text || strings.Count(got, "\n") != 6 || !Right(x.s) {
				t.Errorf("%q: %q, not %q", is, got, text)
			}
			if got, code, _ := Parse(text); !same(got, x.s) || code != api.OK {
				t.Errorf("%q: %v, %d", text, got, code)
			}
		}
	}
}

// wrongs are sums that aren't right in one thing each.
func wrongs() []Sum {
	var all []Sum
	for _, none := range []string{"", strings.Repeat("n", 81), strings.Repeat("n", 100000)} {
		all = append(all, Sum{none, "b", nil}, Sum{"s", none, nil}, Sum{none, none, nil}, Sum{"s", "b", []Part{{none, nil}}}, Sum{"s", "b", []Part{{"g", results(1)}, {none, results(1)}}}, Sum{"s", "b", []Part{{none, results(2)}, {"g", nil}}}, Sum{"s", "b", []Part{{"g", []api.Result{{Name: none, Verdict: 1}}}}}, Sum{"s", "b", []Part{{"g", results(1)}, {"h", []api.Result{{Name: "t", Verdict: 1}, {Name: none, Verdict: 1}, {Name: "t", Verdict: 1}}}}})
	}
	for _, v := range []int{0, 8, -1, 9, 256 + 1, 1<<32 + 1, math.MinInt, math.MinInt + 1, math.MaxInt} {
		all = append(all, Sum{"s", "b", []Part{{"g", results(v)}}}, Sum{"s", "b", []Part{{"g", results(1, 7, v)}, {"h", results(1)}}}, Sum{"s", "b", []Part{{"g", results(1)}, {"h", results(v, 1)}}})
	}
	return append(all, Sum{})
}

func TestNotRight(t *testing.T) { // P20.1
	for _, s := range wrongs() {
		if got := Text(s); Right(s) || got != "" {
			t.Errorf("%.200v: %v, %q", s, Right(s), got)
		}
	}
}

func TestTotals(t *testing.T) { // P20.1, P5
	for _, x := range []struct {
		s    Sum
		want [8]int
	}{
		{Sum{}, [8]int{}},
		{Sum{"s", "b", []Part{{"g", results(1, 2, 3, 4, 5, 6, 7)}, {"h", nil}, {"g", results(1, 7, 7)}}}, [8]int{0, 2, 1, 1, 1, 1, 1, 3}},
		{Sum{"", "", []Part{{"", results(0, 8, -1, math.MinInt, math.MaxInt)}, {"", results(9, 1)}}}, [8]int{6, 1}},
		{Sum{"", "", []Part{{"", []api.Result{{Verdict: 2}, {Name: strings.Repeat("n", 81), Verdict: 2}}}}}, [8]int{2: 2}},
		{Sum{"s", "b", []Part{{"g", manyResults(5, 3000)}, {"g", manyResults(5, 3000)}}}, [8]int{5: 6000}},
	} {
		if got := Totals(x.s); got != x.want {
			t.Errorf("%.200v: %v, not %v", x.s, got, x.want)
		}
	}
	for _, s := range wrongs() {
		var all []api.Result
		for _, p := range s.Parts {
			all = append(all, p.Results...)
		}
		if Totals(s) != trace.Count(all) {
			t.Errorf("%.200v: %v", s, Totals(s))
		}
	}
}

// refused tells whether a text is refused at a line.
func refused(t *testing.T, text string, line int) {
	t.Helper()
	s, code, at := Parse(text)
	if code != api.ErrForm || at != line || s.Suite != "" || s.Board != "" || len(s.Parts) != 0 {
		t.Errorf("%.300q: %.300v, %d at %d, not at %d", text, s, code, at, line)
	}
}

const someText = "Test run of s\nBoard b\ngroup g\nPASS: t\nFAIL: u\nPASS: v\ngroup h\nXFAIL: t\n# PASS 2\n# FAIL 1\n# XFAIL 1\n# end\n"

func TestCutOff(t *testing.T) { // P20.1, P20.2
	if _, code, _ := Parse(someText); code != api.OK {
		t.Fatal("the text itself")
	}
	for end := range len(someText) {
		refused(t, someText[:end], strings.Count(someText[:end], "\n"))
	}
	refused(t, "", 0)
	refused(t, "Test run of s\nBoard b\n# end", 2)
}

// TestLines leaves lines out, doubles them, and has two change their places.
func TestLines(t *testing.T) { // P20.1
	lines := strings.SplitAfter(strings.TrimSuffix(someText, "\n"), "\n")
	lines[len(lines)-1] += "\n"
	join := func(ls ...[]string) string {
		var all []string
		for _, l := range ls {
			all = append(all, l...)
		}
		return strings.Join(all, "")
	}
	//              Test Board g  P  F  P  h  X  #P  #F  #X  end
	without := []int{0, 1, 2, 7, 8, 7, -1, 9, 8, 9, 10, 11}
	doubled := []int{1, 2, -1, 9, 10, 9, -1, 11, 9, 10, 11, 12}
	swapped := []int{0, 1, 2, -1, -1, -1, -1, 8, 8, 9, 10} // with the next one
	for i := range lines {
		if text := join(lines[:i], lines[i+1:]); without[i] >= 0 {
			refused(t, text, without[i])
		} else if s, code, _ := Parse(text); code != api.OK || Text(s) != text {
			t.Errorf("%q", text)
		}
		if text := join(lines[:i+1], lines[i:]); doubled[i] >= 0 {
			refused(t, text, doubled[i])
		} else if s, code, _ := Parse(text); code != api.OK || Text(s) != text {
			t.Errorf("%q", text)
		}
		if i == len(swapped) {
			continue
		}
		if text := join(lines[:i], lines[i+1:i+2], lines[i:i+1], lines[i+2:]); swapped[i] >= 0 {
			refused(t, text, swapped[i])
		} else if s, code, _ := Parse(text); code != api.OK || Text(s) != text {
			t.Errorf("%q", text)
		}
	}
}

func TestCounts(t *testing.T) { // P20.1
	for _, count := range []string{"1", "3", "0", "02", "002", "+2", "-2", "2 ", " 2", "", "2.0", "0x2", "２", "22", "2\r", "two", "99999999999999999999"} {
		refused(t, strings.Replace(someText, "# PASS 2", "# PASS "+count, 1), 8)
	}
	for _, count := range []string{"0", "2", "01", "+1", "-1"} {
		refused(t, strings.Replace(someText, "# XFAIL 1", "# XFAIL "+count, 1), 10)
	}
	for _, verdict := range []string{"XPASS", "UNRESOLVED", "UNSUPPORTED", "UNTESTED"} { // of which there is none
		refused(t, strings.Replace(someText, "# end", "# "+verdict+" 0\n# end", 1), 11)
		refused(t, strings.Replace(someText, "# end", "# "+verdict+" 1\n# end", 1), 11)
		refused(t, strings.Replace(someText, "# XFAIL", "# "+verdict+" 0\n# XFAIL", 1), 10)
	}
	refused(t, strings.Replace(someText, "# FAIL 1\n# XFAIL 1\n", "# XFAIL 1\n# FAIL 1\n", 1), 9)
	refused(t, strings.Replace(someText, "# PASS 2\n", "", 1), 8)
	refused(t, strings.Replace(someText, "# XFAIL 1\n", "", 1), 10)
	refused(t, "Test run of s\nBoard b\n# PASS 0\n# end\n", 2)
	refused(t, "Test run of s\nBoard b\n#  0\n# end\n", 2)
}

// TestWrongLines puts lines that may not stand there in the places of others.
func TestWrongLines(t *testing.T) { // P20.1
	for _, behind := range []string{"\n", "# end\n", "x", "group g\n", " "} {
		refused(t, someText+behind, 12)
	}
	notWritten := []string{"", " ", " a", "a ", "a\t", "a\r", `\`, `\0`, `\0A`, `\61`, `a\20b`, `\5C`, "é", "\x7f", "\x00", "a\\", strings.Repeat("n", 81), strings.Repeat(`\0a`, 81), strings.Repeat("n", 1000)}
	for _, w := range notWritten {
		refused(t, strings.Replace(someText, "of s\n", "of "+w+"\n", 1), 0)
		refused(t, strings.Replace(someText, "Board b\n", "Board "+w+"\n", 1), 1)
		refused(t, strings.Replace(someText, "group g\n", "group "+w+"\n", 1), 2)
		refused(t, strings.Replace(someText, "PASS: t\n", "PASS: "+w+"\n", 1), 3)
		refused(t, strings.Replace(someText, "group h\n", "group "+w+"\n", 1), 6)
		refused(t, strings.Replace(someText, "XFAIL: t\n", "XFAIL: "+w+"\n", 1), 7)
	}
	for _, line := range []string{"", " ", "Test run of s", "Board b", "group", "group ", "groupg", "Group x", " group x", "PASS", "PASS:", "PASS: ", "PASS:t", "PASS : t", " PASS: t", "pass: t", "NONE: t", ": t", "0: t", "1: t", "PASSED: t", "PAS: t", "#", "# ", "# end ", " # end", "#end", "# END", "# PASS 2", "# FAIL 1", "# PASS", "#PASS 2", "x"} {
		refused(t, strings.Replace(someText, "FAIL: u\n", line+"\nFAIL: u\n", 1), 4)
		refused(t, strings.Replace(someText, "group g\n", line+"\ngroup g\n", 1), 2)
	}
	refused(t, strings.Replace(someText, "group g\n", "", 1), 2) // a result of no group
	refused(t, strings.Replace(someText, "group g\n", "# end\ngroup g\n", 1), 3)
	refused(t, strings.Replace(someText, "PASS: t\n", "# end\nPASS: t\n", 1), 4)
	refused(t, strings.Replace(someText, "FAIL: u\n", "# end\nFAIL: u\n", 1), 4)
	refused(t, strings.Replace(someText, "# PASS 2\n", "# PASS 2\ngroup i\n", 1), 9)
	refused(t, strings.Replace(someText, "# PASS 2\n", "# PASS 2\nPASS: t\n", 1), 9)
	refused(t, strings.ReplaceAll(someText, "\n", "\r\n"), 0)
	refused(t, strings.ReplaceAll(someText, "\n", ""), 0)
	refused(t, "\n"+someText, 0)
	refused(t, " "+someText, 0)
	refused(t, "\xef\xbb\xbf"+someText, 0)
	for _, text := range []string{"\n", "\n\n", "x", "Test run of", "Test run of \n", "test run of s\n", "Test run of\ts\n", "Board b\n", "# end\n", "Test run of s\x00\n"} {
		refused(t, text, 0)
	}
}
