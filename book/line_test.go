package book

import (
	"fmt"
	"math"
	"math/rand"
	"strings"
	"testing"

	"colloquy/api"
)

func TestExamples(t *testing.T) { // P21.1, P21.2
	for want, e := range map[string]api.Event{
		`7 matched 1 "a"`: {Kind: api.Matched, N: 1, Text: "a", At: 7},
		`5 late -`:        {Kind: api.TimedOut, N: -1, At: 5},
	} {
		if got := Line(e); got != want {
			t.Errorf("%q, not %q", got, want)
		}
		if got, ok := Parse(want); !ok || got != e {
			t.Errorf("%q: %v, %v", want, got, ok)
		}
	}
}

// TestKinds has a line of each Kind, written out.
func TestKinds(t *testing.T) { // P21.1, P21.2
	for want, e := range map[string]api.Event{
		`0 spawned 0`:                   {Kind: 1},
		`0 spawned 12`:                  {Kind: 1, N: 12},
		`9 spawned 1`:                   {Kind: 1, N: 1, At: 9}, // At isn't counted
		`3 sent ""`:                     {Kind: 2, At: 3},
		`3 sent "a b"`:                  {Kind: 2, Text: "a b", At: 3},
		`3 sent " "`:                    {Kind: 2, Text: " ", At: 3},
		`3 sent "\"\"\\"`:               {Kind: 2, Text: `""\`, At: 3},
		`0 matched 0 ""`:                {Kind: 3},
		`10 matched 11 "\n\t\x00\xff"`:  {Kind: 3, N: 11, Text: "\n\t\x00\xff", At: 10},
		`1 filled 0 "\xc3\xa9\x7f~"`:    {Kind: 4, Text: "é\x7f~", At: 1},
		`1 filled 2 "1 filled 2 \"\""`:  {Kind: 4, N: 2, Text: `1 filled 2 ""`, At: 1},
		`2 over 0`:                      {Kind: 5, At: 2},
		`2 over -`:                      {Kind: 5, N: -1, At: 2},
		`2 dead 1`:                      {Kind: 6, N: 1, At: 2},
		`2 dead -`:                      {Kind: 6, N: -1, At: 2},
		`2 late 7`:                      {Kind: 7, N: 7, At: 2},
		`0 late -`:                      {Kind: 7, N: -1},
		`4 spent`:                       {Kind: 8, At: 4},
		`4 nofuel`:                      {Kind: 9, At: 4},
		`4 close`:                       {Kind: 10, At: 4},
		`4 far`:                         {Kind: 11, At: 4},
		`4 passed`:                      {Kind: 12, At: 4},
		`4 failed`:                      {Kind: 13, At: 4},
		`4 waited 0`:                    {Kind: 14, At: 4},
		`4 waited 4`:                    {Kind: 14, N: 4, At: 4},
		`9223372036854775807 passed`:    {Kind: 12, At: math.MaxInt64},
		`0 waited 9223372036854775807`:  {Kind: 14, N: math.MaxInt},
		`5 matched 1099511627777 "a\n"`: {Kind: 3, N: 1<<40 + 1, Text: "a\n", At: 5}, // a line knows no bounds
		`1125899906842625 over 1`:       {Kind: 5, N: 1, At: 1<<50 + 1},
	} {
		if got := Line(e); got != want {
			t.Errorf("%q, not %q", got, want)
		}
		if got, ok := Parse(want); !ok || got != e {
			t.Errorf("%q: %v, %v", want, got, ok)
		}
	}
}

// someNs, someTexts and someAts are what an event may have, and what it may not.
var (
	someNs    = []int{-2, -1, 0, 1, 10, 1 << 40, 1<<40 + 1, math.MaxInt, math.MinInt, math.MinInt + 1}
	someTexts = []string{"", "a", " ", `"`, `\`, "\n", "a\nb", "\x80\xff", "é", "\x00", `\n`, `\x0a`, "-", "1 passed"}
	someAts   = []int64{0, 1, 10, 1 << 50, math.MaxInt64, -1, -10, math.MinInt64}
)

// TestAllEvents has each Kind with each of them.
func TestAllEvents(t *testing.T) { // P21.1, P21.2
	lines := map[string]api.Event{}
	rights := 0
	kinds := []int{-1, math.MinInt, math.MaxInt, 256 + 1, 1<<32 + 2}
	for kind := range 17 {
		kinds = append(kinds, kind)
	}
	for _, kind := range kinds {
		for _, n := range someNs {
			for _, text := range someTexts {
				for _, at := range someAts {
					e := api.Event{Kind: kind, N: n, Text: text, At: at}
					got := Line(e)
					if got != plainLine(e) {
						t.Fatalf("%v: %q, not %q", e, got, plainLine(e))
					}
					if got == "" {
						continue
					}
					rights++
					if other, there := lines[got]; there {
						t.Fatalf("%q is the line of %v and %v", got, other, e)
					}
					lines[got] = e
					if parsed, ok := Parse(got); !ok || parsed != e {
						t.Fatalf("%q: %v, %v", got, parsed, ok)
					}
				}
			}
		}
	}
	if rights < 500 {
		t.Errorf("%d are right", rights)
	}
}

// TestNoLines: lines that are none's.
func TestNoLines(t *testing.T) { // P21.1, P21.2
	var none []string
	for _, s := range []string{`7 matched 1 "a"`, `5 late -`, `0 spawned 2`, `3 sent "a"`, `4 passed`, `4 waited 4`, `10 filled 20 "\n"`} {
		none = append(none, s+" ", " "+s, s+"\n", "\n"+s, s+"\r", s+" 1", s+` "a"`, s+" -", s+"x", "0"+s, "+"+s, "-"+s, s+"#", s+"\x00", "x"+s, strings.ToUpper(s), s+" "+s, s+"\n"+s, s+`"`)
		for at, b := range []byte(s) {
			if b == ' ' {
				none = append(none, s[:at]+" "+s[at:], s[:at]+s[at+1:], s[:at]+"\t"+s[at+1:], s[:at]+"\n"+s[at+1:])
			}
		}
		for end := range s {
			none = append(none, s[:end])
		}
	}
	none = append(none, "", " ", "  ", "passed", " passed", "7", "7 ", "7  ", "07 passed", "00 passed", "+7 passed", "-7 passed", "-0 passed", "0x7 passed", "7. passed", "7_0 passed", "９ passed", "9223372036854775808 passed", "99999999999999999999 passed", "- passed",
		"7 none", "7 ", "7 pass", "7 passe", "7 passedd", "7 Passed", "7 PASSED", "7 timedout", "7 gone", "7 0", "7 12", "7 \"passed\"",
		"7 passed -", "7 passed 0", `7 passed ""`, "7 spent 0", "7 close -", "7 far 1", "7 failed \"a\"", "7 nofuel 0",
		"7 late", "7 late ", "7 late -1", "7 late --", "7 late - ", "7 late 01", "7 late 00", "7 late +1", "7 late -0", "7 late x", "7 late 9223372036854775808", "7 over 1_0", "7 over \"\"", "7 dead 1.0", "7 over -2",
		"7 waited -", "7 waited -1", "7 spawned -", "7 spawned", "7 waited", "7 waited 0x1", `7 matched - "a"`, `7 filled - "a"`, `7 matched -1 "a"`,
		`7 matched "a"`, `7 matched 1`, `7 matched 1 `, `7 matched 01 ""`, `7 matched 1 a`, `7 matched "a" 1`, `7 matched 1 2 "a"`, `7 matched 1 "a" "a"`, `7 filled 1  "a"`,
		`7 sent`, `7 sent `, `7 sent a`, `7 sent "`, `7 sent "a`, `7 sent a"`, `7 sent """`, `7 sent "a"b"`, `7 sent "a\"`, `7 sent 'a'`, "7 sent `a`", `7 sent 1 "a"`, `7 sent - "a"`, `7 sent "\q"`, `7 sent "\x"`, `7 sent "\x0"`, `7 sent "\x0g"`,
		// quotes that mean a text, but aren't how layer 13 writes it
		`7 sent "\x0a"`, `7 sent "\x09"`, `7 sent "\x61"`, `7 sent "\x22"`, `7 sent "\x5c"`, `7 sent "\x20"`, `7 sent "\xFF"`, `7 sent "\xfF"`, `7 sent "\a"`, `7 sent "\r"`, `7 sent "\0"`, `7 sent "\101"`, `7 sent "\u0061"`, `7 sent "\u00e9"`, `7 sent "\U00000061"`, `7 sent "\'"`, "7 sent \"é\"", "7 sent \"\xff\"", "7 sent \"\x7f\"", "7 sent \"\t\"", "7 sent \"a\nb\"", "7 sent \"a\x00\"",
	)
	for _, s := range none {
		if e, ok := Parse(s); ok || e != (api.Event{}) {
			t.Errorf("%q: %v, %v", s, e, ok)
		}
		if e, ok := plainParse(s); ok {
			t.Errorf("%q is the line of %v", s, e)
		}
	}
}

// TestEachByte holds the quote of each byte, alone and behind each other one.
func TestEachByte(t *testing.T) { // P21.1, P21.2, P21.3
	for a := range 256 {
		for b := range 257 {
			text := string([]byte{byte(a), byte(b)})
			if b == 256 {
				text = text[:1]
			}
			e := api.Event{Kind: api.Sent, Text: text, At: 3}
			s := Line(e)
			if s != plainLine(e) || strings.ContainsAny(s, "\n\r") {
				t.Fatalf("%q: %q, not %q", text, s, plainLine(e))
			}
			if got, ok := Parse(s); !ok || got != e {
				t.Fatalf("%q: %v, %v", s, got, ok)
			}
		}
	}
}

// TestLongTexts: a line's text may be longer than a suite's.
func TestLongTexts(t *testing.T) { // P21.2
	r := rand.New(rand.NewSource(1))
	for _, size := range []int{api.MaxText - 3, api.MaxText - 2, api.MaxText - 1, api.MaxText, api.MaxText + 1, 1 << 20, 1<<20 + 1} {
		b := make([]byte, size)
		r.Read(b)
		for _, text := range []string{string(b), strings.Repeat("a", size), strings.Repeat(`\`, size), strings.Repeat("\n", size), strings.Repeat(`"`, size-1) + "a"} {
			for _, e := range []api.Event{{Kind: api.Sent, Text: text}, {Kind: api.Matched, N: 2, Text: text, At: 9}, {Kind: api.Filled, Text: text}} {
				s := Line(e)
				if s != plainLine(e) {
					t.Fatalf("of %d bytes: a line of %d", size, len(s))
				}
				if got, ok := Parse(s); !ok || got != e {
					t.Fatalf("of %d bytes: %v, %d bytes", size, ok, len(got.Text))
				}
				if _, ok := Parse(s[:len(s)-1]); ok {
					t.Fatalf("of %d bytes, without its end", size)
				}
				if _, ok := Parse(s + `"`); ok {
					t.Fatalf("of %d bytes, with something behind", size)
				}
			}
		}
	}
	for _, s := range []string{strings.Repeat("9", 1<<20) + " passed", "7 " + strings.Repeat("passed", 1<<20), "7 over " + strings.Repeat("1", 1<<20), strings.Repeat(" ", 1<<20), "7 sent" + strings.Repeat(" ", 1<<20), strings.Repeat("\n", 1<<20), "7 sent \"" + strings.Repeat("a", 1<<20)} {
		if e, ok := Parse(s); ok || e != (api.Event{}) {
			t.Errorf("%.20q", s)
		}
	}
}

// holdLine holds what a line is parsed as against the chapter's words; true: it is an event's.
func holdLine(t *testing.T, s string) bool {
	t.Helper()
	e, ok := Parse(s)
	want, wantOK := plainParse(s)
	if e != want || ok != wantOK {
		t.Fatalf("%q: %v, %v, not %v, %v", s, e, ok, want, wantOK)
	}
	if ok && Line(e) != s {
		t.Fatalf("%q is parsed, and is told as %q", s, Line(e))
	}
	return ok
}

// TestAllShortLines puts all pieces behind each other.
func TestAllShortLines(t *testing.T) { // P21.1, P21.2
	some := []string{" ", "0", "1", "-", `"`, `""`, `\`, "n", "sent", "over", "passed", "matched", "x0", "\n"}
	right := 0
	var all func(s string, more int)
	all = func(s string, more int) {
		if holdLine(t, s) {
			right++
		}
		for _, piece := range some {
			if more > 0 {
				all(s+piece, more-1)
			}
		}
	}
	all("", 4)
	all("3 sent ", 4)
	all("3 matched 1 ", 4)
	all("3 over ", 4)
	if right < 100 {
		t.Errorf("%d are right", right)
	}
}

func someEvent(r *rand.Rand) api.Event {
	e := api.Event{Kind: r.Intn(16), At: int64(r.Intn(30))}
	if r.Intn(4) > 0 {
		e.Kind = 1 + r.Intn(14)
	}
	if plainHas(e.Kind%15, " N") != (r.Intn(20) == 0) {
		e.N = r.Intn(5)
		if r.Intn(4) == 0 {
			e.N = -r.Intn(3)
		}
	}
	if plainHas(e.Kind%15, "Text") != (r.Intn(20) == 0) {
		for range r.Intn(6) {
			e.Text += someTexts[r.Intn(len(someTexts))]
		}
	}
	switch r.Intn(40) {
	case 0:
		e.At = -e.At
	case 1:
		e.At = r.Int63()
	case 2:
		e.N = r.Int()
	}
	return e
}

// TestAnyLines has lines of many events, and changes them.
func TestAnyLines(t *testing.T) { // P21.1, P21.2, P21.3
	r := rand.New(rand.NewSource(2))
	pieces := []string{" ", "  ", "0", "1", "-", `"`, `\`, `\n`, `\x0a`, `\x80`, "a", "\n", "\xff", "é", "passed", "over", "sent"}
	lines, right := 0, 0
	for range 100000 {
		e := someEvent(r)
		s := Line(e)
		if s != plainLine(e) || strings.Contains(s, "\n") {
			t.Fatalf("%v: %q, not %q", e, s, plainLine(e))
		}
		if s == "" {
			continue
		}
		lines++
		if got, ok := Parse(s); !ok || got != e {
			t.Fatalf("%q: %v, %v", s, got, ok)
		}
		from := r.Intn(len(s) + 1)
		to := min(len(s), from+r.Intn(3))
		if changed := s[:from] + pieces[r.Intn(len(pieces))] + s[to:]; holdLine(t, changed) {
			right++
		}
		holdLine(t, fmt.Sprint(s[:from], s[to:]))
	}
	if lines < 50000 || right < 3000 || right > 90000 {
		t.Errorf("%d lines, %d changed ones are right", lines, right)
	}
}
