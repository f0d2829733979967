package sum

import (
	"fmt"
	"regexp"
	"slices"
	"strconv"
	"strings"

	"colloquy/api"
)

// same tells whether two sums are the same, where nil lists are empty ones.
func same(a, b Sum) bool {
	return a.Suite == b.Suite && a.Board == b.Board && slices.EqualFunc(a.Parts, b.Parts, func(p, q Part) bool {
		return p.Group == q.Group && slices.Equal(p.Results, q.Results)
	})
}

// The chapter's form, with the verdicts' words and numbers.

var plainWords = []string{"PASS", "FAIL", "XPASS", "XFAIL", "UNRESOLVED", "UNTESTED", "UNSUPPORTED"}

func plainRight(s Sum) bool {
	names := []string{s.Suite, s.Board}
	for _, p := range s.Parts {
		names = append(names, p.Group)
		for _, r := range p.Results {
			names = append(names, r.Name)
			if r.Verdict < 1 || r.Verdict > 7 {
				return false
			}
		}
	}
	return !slices.ContainsFunc(names, func(n string) bool { return n == "" || len(n) > 80 })
}

func plainWritten(is string) string {
	out := ""
	for i, b := range []byte(is) {
		if b > 32 && b < 127 && b != '\\' || b == 32 && i > 0 && i < len(is)-1 {
			out += string(rune(b))
		} else {
			out += fmt.Sprintf(`\%02x`, b)
		}
	}
	return out
}

var plainCode = regexp.MustCompile(`\\[0-9a-f]{2}`)

// plainName is the name that is written so.
func plainName(written string) (string, bool) {
	is := plainCode.ReplaceAllStringFunc(written, func(code string) string {
		n, _ := strconv.ParseUint(code[1:], 16, 8)
		return string([]byte{byte(n)})
	})
	return is, len(is) >= 1 && len(is) <= 80 && plainWritten(is) == written
}

func plainCounts(s Sum) [8]int {
	var n [8]int
	for _, p := range s.Parts {
		for _, r := range p.Results {
			if r.Verdict >= 1 && r.Verdict <= 7 {
				n[r.Verdict]++
			} else {
				n[0]++
			}
		}
	}
	return n
}

func plainText(s Sum) string {
	if !plainRight(s) {
		return ""
	}
	out := fmt.Sprintf("Test run of %s\nBoard %s\n", plainWritten(s.Suite), plainWritten(s.Board))
	for _, p := range s.Parts {
		out += fmt.Sprintf("group %s\n", plainWritten(p.Group))
		for _, r := range p.Results {
			out += fmt.Sprintf("%s: %s\n", plainWords[r.Verdict-1], plainWritten(r.Name))
		}
	}
	for i, n := range plainCounts(s) {
		if n > 0 {
			out += fmt.Sprintf("# %s %d\n", plainWords[i-1], n)
		}
	}
	return out + "# end\n"
}

// plainOrder is what may be behind what, by a letter each line: the suite, the board, groups with the verdicts' numbers behind them, totals by the verdicts' numbers as letters, the end.
var plainOrder = regexp.MustCompile(`^(s(b((g[1-7]*)*A?B?C?D?E?F?G?e?)?)?)?$`)

var (
	plainNamed = regexp.MustCompile(`(?s)^(Test run of |Board |group |[A-Z]+: )(.*)\n$`)
	plainTotal = regexp.MustCompile(`^# ([A-Z]+) ([1-9][0-9]*)\n$`)
)

// plainLetter is a line's letter, x of one that never may stand.
func plainLetter(line string) string {
	if line == "# end\n" {
		return "e"
	}
	if m := plainTotal.FindStringSubmatch(line); m != nil {
		if i := slices.Index(plainWords, m[1]); i >= 0 {
			return "ABCDEFG"[i : i+1]
		}
	}
	m := plainNamed.FindStringSubmatch(line)
	if m == nil {
		return "x"
	}
	if _, ok := plainName(m[2]); !ok {
		return "x"
	}
	switch i := slices.Index(plainWords, strings.TrimSuffix(m[1], ": ")); {
	case i >= 0:
		return strconv.Itoa(i + 1)
	case m[1] == "Test run of ":
		return "s"
	case m[1] == "Board ":
		return "b"
	case m[1] == "group ":
		return "g"
	}
	return "x"
}

// plainBeginning tells whether a Sum's text begins with these lines.
func plainBeginning(lines []string) bool {
	letters := ""
	for _, line := range lines {
		letters += plainLetter(line)
	}
	if !plainOrder.MatchString(letters) {
		return false
	}
	totals := ""
	for i := range 7 {
		n := strings.Count(letters, strconv.Itoa(i+1))
		if n > 0 {
			totals += "ABCDEFG"[i : i+1]
		}
		if at := strings.Index(letters, "ABCDEFG"[i:i+1]); at >= 0 && lines[at] != fmt.Sprintf("# %s %d\n", plainWords[i], n) {
			return false
		}
	}
	tail := strings.TrimLeft(letters, "sbg1234567")
	return strings.HasPrefix(totals+"e", tail)
}

// plainParse looks at each beginning of the text's lines.
func plainParse(text string) (Sum, api.Errno, int) {
	lines := strings.SplitAfter(text, "\n")
	if lines[len(lines)-1] == "" {
		lines = lines[:len(lines)-1]
	}
	for i := range lines {
		if !plainBeginning(lines[:i+1]) {
			return Sum{}, 80, i
		}
	}
	if len(lines) == 0 || lines[len(lines)-1] != "# end\n" {
		return Sum{}, 80, len(lines)
	}
	var s Sum
	for _, line := range lines {
		m := plainNamed.FindStringSubmatch(line)
		if m == nil {
			break
		}
		is, _ := plainName(m[2])
		switch m[1] {
		case "Test run of ":
			s.Suite = is
		case "Board ":
			s.Board = is
		case "group ":
			s.Parts = append(s.Parts, Part{Group: is})
		default:
			last := &s.Parts[len(s.Parts)-1]
			last.Results = append(last.Results, api.Result{Name: is, Verdict: slices.Index(plainWords, strings.TrimSuffix(m[1], ": ")) + 1})
		}
	}
	return s, 0, 0
}
