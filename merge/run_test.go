package merge

import (
	"strings"
	"testing"

	"colloquy/api"
	"colloquy/book"
	"colloquy/cond"
	"colloquy/runner"
	"colloquy/sound"
	"colloquy/suite"
	"colloquy/sum"
	"colloquy/trace"
)

// runText is a suite whose tests have all verdicts.
const runText = `suite "a run" board "b" { x = "1" } board "c" { x = "2" }
group "one" { test "t" { send "hi" expect 5 { exact "ok" { pass } } } test "u" { expect 5 { exact "no" { } late { fail } } } test "v" { expect 5 { exact "no" { } } } }
group "two" { test "t" xfail x = "1" { pass } test "u" xfail x = "1" { wait 2 fail } test "v" untested test "w" unsupported }
group "three" { }
group "four" { test "n" { expect 9 { regex "[0-9]+" { near 42 1 } } fail } test "m" { near 1 0 } test "spent" budget 3 { wait 9 } test "\n" { } }`

// TestRun publishes what has happened when groups were run: each verdict is layer 18's of the events that the log tells.
func TestRun(t *testing.T) { // DOC P5, P22.1, P22.2
	s, flaw := suite.Parse(runText)
	if f := sound.Check(s); flaw.Code != api.OK || f.Code != api.OK {
		t.Fatal(flaw, f)
	}
	says := []api.Stream{{Chunks: []api.Chunk{{Wait: 2, B: []byte("ok")}, {Wait: 3, B: []byte(" 42 ")}}}}
	for _, b := range s.Boards {
		var es []api.Entry
		for g := range s.Groups {
			es = append(es, runner.Run(g, s.Groups[g], b, says, runner.Conf{Buffer: 100, Fuel: 1000}).Entry)
		}
		text, log, code := Publish(s, b.Name, es)
		if code != api.OK {
			t.Fatal(code)
		}
		for way := range 81 {
			got, code := Merge(4, spread(es, way))
			if code != api.OK {
				t.Fatal(code)
			}
			if t2, l2, code := Publish(s, b.Name, got); code != api.OK || t2 != text || l2 != log {
				t.Fatalf("%q, %q, %d", t2, l2, code)
			}
		}
		holdVerdicts(t, s, b, text, log)
	}
}

// holdVerdicts holds the verdicts of a .sum against the events of a .log.
func holdVerdicts(t *testing.T, s api.Suite, b api.Board, text, log string) {
	t.Helper()
	all, code, _ := sum.Parse(text)
	if code != api.OK || len(all.Parts) != len(s.Groups) {
		t.Fatalf("%q", text)
	}
	kinds := map[int]int{}
	lines := strings.Split(log, "\n")[2:]
	for g, p := range all.Parts {
		lines = lines[1:]
		for i, r := range p.Results {
			lines = lines[1:]
			var es []api.Event
			for strings.HasPrefix(lines[0], "  ") {
				e, ok := book.Parse(lines[0][2:])
				if !ok {
					t.Fatalf("%q", lines[0])
				}
				es, lines = append(es, e), lines[1:]
			}
			test := s.Groups[g].Tests[i]
			if want := trace.Verdict(test.Kind, es, cond.Any(test.Xfail, b)); r.Name != test.Name || r.Verdict != want {
				t.Errorf("%q, %v: %d, not %d", r.Name, es, r.Verdict, want)
			}
			kinds[r.Verdict]++
		}
	}
	if lines[0] != "end" || b.Name == "b" && len(kinds) != 7 {
		t.Errorf("%q, %v", lines, kinds)
	}
}
