package sum

import (
	"math/rand"
	"strings"
	"testing"

	"colloquy/api"
)

// hold holds what a text is parsed as against the chapter's words; true: it is a sum's.
func hold(t *testing.T, text string) bool {
	t.Helper()
	s, code, at := Parse(text)
	want, wantCode, wantAt := plainParse(text)
	if !same(s, want) || code != wantCode || at != wantAt {
		t.Fatalf("%q: %v, %d at %d, not %v, %d at %d", text, s, code, at, want, wantCode, wantAt)
	}
	if code == api.OK && Text(s) != text {
		t.Fatalf("%q is parsed, and is told as %q", text, Text(s))
	}
	return code == api.OK
}

// TestAllLines goes through all texts of some lines.
func TestAllLines(t *testing.T) { // P20.1, P20.2
	some := []string{"Test run of s\n", "Board b\n", "group g\n", "PASS: t\n", "FAIL: t\n", "# PASS 1\n", "# end\n", "\n", "x\n", "PASS: t"}
	var all func(text string, more int)
	all = func(text string, more int) {
		hold(t, text)
		for _, line := range some {
			if more > 0 {
				all(text+line, more-1)
			}
		}
	}
	all("", 4)
	right := 0
	some = []string{"group g\n", "PASS: t\n", "UNTESTED: t\n", "# PASS 1\n", "# PASS 2\n", "# UNTESTED 1\n", "# FAIL 0\n", "# end\n"}
	var within func(text string, more int)
	within = func(text string, more int) {
		if hold(t, text) {
			right++
		}
		for _, line := range some {
			if more > 0 {
				within(text+line, more-1)
			}
		}
	}
	within("Test run of s\nBoard b\n", 6)
	if right < 20 {
		t.Errorf("%d are right", right)
	}
}

// someName is a name, or nearly one.
func someName(r *rand.Rand) string {
	pieces := []string{"a", "b", "t1", " ", "\n", "\\", "0a", ": ", "# ", "PASS: ", "group ", "# end", "Board ", "\x00", "\xff", "é", "#", "20"}
	out := ""
	for range 1 + r.Intn(4) {
		out += pieces[r.Intn(len(pieces))]
	}
	switch r.Intn(300) {
	case 0:
		return ""
	case 1:
		return strings.Repeat(out, 30)
	}
	return out
}

func someSum(r *rand.Rand) Sum {
	s := Sum{Suite: someName(r), Board: someName(r)}
	for range r.Intn(4) {
		p := Part{Group: someName(r)}
		for range r.Intn(5) {
			v := 1 + r.Intn(7)
			if r.Intn(100) == 0 {
				v = r.Intn(20) - 9
			}
			p.Results = append(p.Results, api.Result{Name: someName(r), Verdict: v})
		}
		s.Parts = append(s.Parts, p)
	}
	return s
}

func TestAnySums(t *testing.T) { // P20.1, P20.2
	r := rand.New(rand.NewSource(1))
	right := 0
	for range 50000 {
		s := someSum(r)
		text := Text(s)
		if Right(s) != plainRight(s) || text != plainText(s) || Totals(s) != plainCounts(s) {
			t.Fatalf("%+v: %v, %q, %v", s, Right(s), text, Totals(s))
		}
		if !Right(s) {
			continue
		}
		right++
		if got, code, at := Parse(text); !same(got, s) || code != api.OK || at != 0 {
			t.Fatalf("%q: %+v, %d at %d", text, got, code, at)
		}
	}
	if right < 20000 || right > 49000 {
		t.Errorf("%d are right", right)
	}
}

// TestLineCount: a text has just as many lines as there are groups, results, and verdicts that there are, and three.
func TestLineCount(t *testing.T) { // P20.3
	r := rand.New(rand.NewSource(2))
	for range 20000 {
		s := someSum(r)
		if !Right(s) {
			continue
		}
		want := 3 + len(s.Parts)
		seen := map[int]bool{}
		for _, p := range s.Parts {
			want += len(p.Results)
			for _, x := range p.Results {
				seen[x.Verdict] = true
			}
		}
		text := Text(s)
		if n := strings.Count(text, "\n"); n != want+len(seen) || !strings.HasSuffix(text, "\n") || strings.ContainsAny(text, "\r\x00\x7f\xff") {
			t.Fatalf("%q: %d lines, not %d", text, n, want+len(seen))
		}
	}
}

// TestChangedTexts changes bytes and lines of texts that are sums'.
func TestChangedTexts(t *testing.T) { // P20.1, P20.2
	r := rand.New(rand.NewSource(3))
	bytes := "ab: #0129\\\n PASFILXgd\x00\xff"
	right := 0
	for range 50000 {
		text := Text(someSum(r))
		if text == "" {
			continue
		}
		lines := strings.SplitAfter(strings.TrimSuffix(text, "\n"), "\n")
		lines[len(lines)-1] += "\n"
		at, i, j := r.Intn(len(text)), r.Intn(len(lines)), r.Intn(len(lines))
		switch r.Intn(6) {
		case 0:
			text = text[:at] + text[at+1:]
		case 1:
			text = text[:at] + bytes[r.Intn(len(bytes)):][:1] + text[at:]
		case 2:
			text = text[:at] + bytes[r.Intn(len(bytes)):][:1] + text[at+1:]
		case 3:
			lines[i], lines[j] = lines[j], lines[i]
			text = strings.Join(lines, "")
		case 4:
			lines[i] = lines[j]
			text = strings.Join(lines, "")
		case 5:
			text = text[:at]
		}
		if hold(t, text) {
			right++
		}
	}
	if right < 2500 || right > 45000 {
		t.Errorf("%d are right", right)
	}
}

// TestMany: long texts, sums' and others.
func TestMany(t *testing.T) { // DOC P1
	s := Sum{Suite: "s", Board: "b"}
	for range 20000 {
		s.Parts = append(s.Parts, Part{Group: "g", Results: results(1, 2, 3, 4, 5)})
	}
	text := Text(s)
	if got, code, _ := Parse(text); code != api.OK || !same(got, s) {
		t.Error("of many groups")
	}
	refused(t, text[:len(text)-1], 2+6*20000+5)
	refused(t, strings.Repeat("x", 1<<24), 0)
	refused(t, strings.Repeat("\n", 1<<24), 0)
	refused(t, "Test run of s\nBoard b\n"+strings.Repeat("group g\n", 1<<20), 2+1<<20)
	refused(t, "Test run of s\nBoard b\nPASS: "+strings.Repeat("\\0a", 1<<20), 2)
}
