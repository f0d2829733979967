package worker

import (
	"testing"

	"colloquy/api"
	"colloquy/book"
	"colloquy/cond"
	"colloquy/runner"
	"colloquy/sound"
	"colloquy/suite"
	"colloquy/trace"
	"colloquy/vfs"
)

// runText is a suite whose tests have all verdicts.
const runText = `suite "a run" board "b" { x = "1" }
group "one" { test "t" { send "hi" expect 5 { exact "ok" { pass } } } test "u" { expect 5 { exact "no" { } late { fail } } } test "v" { expect 5 { exact "no" { } } } }
group "two" { test "t" xfail x = "1" { pass } test "u" xfail x = "1" { wait 2 fail } test "v" untested test "w" unsupported }
group "three" { }
group "four" { test "n" { expect 9 { regex "[0-9]+" { near 42 1 } } fail } test "spent" budget 3 { wait 9 } test "\n" { } }`

// TestRun has groups run on a board, with the power going at every step: each verdict that is in the journal is layer 18's of the events that are there, and the entries are those that layer 19 makes.
func TestRun(t *testing.T) { // DOC P4, DOC P5, P23.1, P23.2
	s, flaw := suite.Parse(runText)
	if f := sound.Check(s); flaw.Code != api.OK || f.Code != api.OK {
		t.Fatal(flaw, f)
	}
	says := []api.Stream{{Chunks: []api.Chunk{{Wait: 2, B: []byte("ok")}, {Wait: 3, B: []byte(" 42 ")}}}}
	run := func(group int) api.Entry {
		return runner.Run(group, s.Groups[group], s.Boards[0], says, runner.Conf{Buffer: 100, Fuel: 1000}).Entry
	}
	kinds := map[int]int{}
	for fail := range 10 {
		d := vfs.New(10000)
		w := New(opened(t, d), []int{2, 0, 3, 1}, run)
		d.Fail(fail)
		for w.Step() == api.OK {
		}
		d.Crash(nil)
		j := opened(t, d)
		if len(j.Keys()) != len(w.Done()) || w.Finished() != (fail == 0 || fail > 8) {
			t.Fatalf("the power goes at %d: %v, %v", fail, j.Keys(), w.Done())
		}
		for _, group := range w.Done() {
			data, _ := j.Get(int64(group))
			e, code := book.Unpack(data)
			if code != api.OK || e.Group != group || string(data) != string(plainEntry(run(group))) || len(e.Results) != len(s.Groups[group].Tests) {
				t.Fatalf("group %d: %v, %d", group, e, code)
			}
			for i, r := range e.Results {
				test := s.Groups[group].Tests[i]
				if want := trace.Verdict(test.Kind, e.Traces[i], cond.Any(test.Xfail, s.Boards[0])); r.Name != test.Name || r.Verdict != want {
					t.Errorf("%q, %v: %d, not %d", r.Name, e.Traces[i], r.Verdict, want)
				}
				kinds[r.Verdict]++
			}
		}
	}
	if len(kinds) != 7 {
		t.Errorf("verdicts %v", kinds)
	}
}
