package runner

import (
	"math"
	"strconv"
	"strings"
	"testing"

	"colloquy/api"
)

func TestExamples(t *testing.T) { // P19.1, P19.2
	runAll(t, []ran{
		{`test "t" { send "hi" expect 5 { exact "ok" { } } pass }`, []string{"2:ok"}, []string{"PASS: 0 spawned 0, 0 sent hi, 2 matched 0 ok, 2 passed"}, [3]int{1, 3, 2}},
		{`test "t" { expect 5 { exact "ok" { pass } } } test "u" { expect 5 { exact "ok" { pass } } }`, []string{"", "1:ok"}, []string{"UNRESOLVED: 0 spawned 0, 5 late -1", "PASS: 0 spawned 1, 1 matched 0 ok, 1 passed"}, [3]int{2, 3, 6}},
	})
}

func TestNoTest(t *testing.T) { // P19.1
	for _, g := range []api.Group{{}, {Name: "g"}, {Name: "g", Tests: []api.Test{}}} {
		for _, number := range []int{0, 3, -1, math.MaxInt, math.MinInt} {
			r := hold(t, number, g, api.Board{}, streams("1:a"), Conf{Buffer: 9, Fuel: 8})
			if r.Entry.Group != number || len(r.Entry.Results) != 0 || len(r.Entry.Traces) != 0 || r.Sessions != 0 || r.Fuel != 8 || r.Ticks != 0 {
				t.Errorf("%+v", r)
			}
		}
	}
}

func TestEntry(t *testing.T) { // P19.1: the names are told, whatever they are
	g := api.Group{Name: "g", Tests: []api.Test{{Name: "a\nb", Budget: 1, Kind: api.Untested}, {Name: "", Budget: 1}, {Name: "a\nb", Budget: 1, Steps: []api.Step{{Kind: api.Fail}}}}}
	r := Run(12, g, someBoard, nil, someConf)
	want := []api.Result{{Name: "a\nb", Verdict: api.UNTESTED}, {Name: "", Verdict: api.UNRESOLVED}, {Name: "a\nb", Verdict: api.FAIL}}
	if r.Entry.Group != 12 || !sameList(r.Entry.Results, want) || len(r.Entry.Traces) != 3 {
		t.Errorf("%+v", r)
	}
}

func TestNotRun(t *testing.T) { // P19.1, P19.2
	runAll(t, []ran{
		{`test "t" untested`, []string{"1:a"}, []string{"UNTESTED:"}, [3]int{}},
		{`test "t" unsupported test "u" untested test "v" unsupported`, nil, []string{"UNSUPPORTED:", "UNTESTED:", "UNSUPPORTED:"}, [3]int{}},
		{`test "t" untested test "u" { pass } test "v" unsupported`, nil, []string{"UNTESTED:", "PASS: 0 spawned 0, 0 passed", "UNSUPPORTED:"}, [3]int{1, 1, 0}},
		{`test "t" { wait 2 pass } test "u" unsupported test "v" { expect 5 { exact "ab" { pass } } }`, []string{"1:a 3:b"}, []string{"PASS: 0 spawned 0, 2 waited 2, 2 passed", "UNSUPPORTED:", "PASS: 4 matched 0 ab, 4 passed"}, [3]int{1, 4, 4}},
		{`test "t" { wait 2 } test "u" untested test "v" { pass }`, nil, []string{"UNRESOLVED: 0 spawned 0, 2 waited 2", "UNTESTED:", "PASS: 0 spawned 1, 0 passed"}, [3]int{2, 2, 2}},
	})
	for kind, v := range map[int]int{api.Untested: api.UNTESTED, api.Unsupported: api.UNSUPPORTED} {
		g := group(t, `test "t" xfail x = "1" { send "x" expect 5 { late { fail } } } test "u" { pass }`)
		g.Tests[0].Kind = kind
		r := hold(t, 0, g, someBoard, nil, someConf)
		if r.Entry.Results[0].Verdict != v || len(r.Entry.Traces[0]) != 0 || r.Ticks != 0 || r.Fuel != 999 {
			t.Errorf("Kind %d: %+v", kind, r)
		}
	}
}

func TestStreams(t *testing.T) { // P19.1
	tests := `test "t" { expect 9 { exact "a" { } } expect 3 { exact "b" { pass } } } test "u" { expect 3 { exact "a" { pass } } } test "v" { expect 3 { exact "a" { pass } } }`
	none := []string{"UNRESOLVED: 0 spawned 0, 9 late -1", "UNRESOLVED: 0 spawned 1, 3 late -1", "UNRESOLVED: 0 spawned 2, 3 late -1"}
	runAll(t, []ran{
		{tests, nil, none, [3]int{3, 3, 15}},
		{tests, []string{"", "", "", "0:a"}, none, [3]int{3, 3, 15}},
		{tests, []string{"1:a"}, []string{"UNRESOLVED: 0 spawned 0, 1 matched 0 a, 4 late -1", none[1], none[2]}, [3]int{3, 4, 10}},
		{tests, []string{"1:a", "2:a"}, []string{"UNRESOLVED: 0 spawned 0, 1 matched 0 a, 4 late -1", "PASS: 0 spawned 1, 2 matched 0 a, 2 passed", "UNRESOLVED: 5 late -1"}, [3]int{2, 5, 9}},
		{tests, []string{"1:a 1:EOF", "2:DEATH", "1:EOF"}, []string{"UNRESOLVED: 0 spawned 0, 1 matched 0 a, 2 over -1", "UNRESOLVED: 0 spawned 1, 2 dead -1", "UNRESOLVED: 0 spawned 2, 1 over -1"}, [3]int{3, 4, 5}},
		{tests, []string{"1:a 2:b 0:a 0:a"}, []string{"PASS: 0 spawned 0, 1 matched 0 a, 3 matched 0 b, 3 passed", "PASS: 3 matched 0 a, 3 passed", "PASS: 3 matched 0 a, 3 passed"}, [3]int{1, 7, 3}},
	})
}

func TestEachStep(t *testing.T) { // P19.1
	runAll(t, []ran{
		{`test "t" { }`, nil, []string{"UNRESOLVED: 0 spawned 0"}, [3]int{1, 0, 0}},
		{`test "t" { send "" }`, nil, []string{"UNRESOLVED: 0 spawned 0, 0 sent"}, [3]int{1, 1, 0}},
		{`test "t" { wait 2 send "a b" send "c" }`, nil, []string{"UNRESOLVED: 0 spawned 0, 2 waited 2, 2 sent a b, 2 sent c"}, [3]int{1, 3, 2}},
		{`test "t" { wait 3 pass }`, nil, []string{"PASS: 0 spawned 0, 3 waited 3, 3 passed"}, [3]int{1, 2, 3}},
		{`test "t" { wait 3 fail }`, nil, []string{"FAIL: 0 spawned 0, 3 waited 3, 3 failed"}, [3]int{1, 2, 3}},
		{`test "t" { wait 3 near 0 1 }`, nil, []string{"FAIL: 0 spawned 0, 3 waited 3, 3 far"}, [3]int{1, 2, 3}},
		{`test "t" { loop 2 { send "a" } }`, nil, []string{"UNRESOLVED: 0 spawned 0, 0 sent a, 0 sent a"}, [3]int{1, 5, 0}},
		{`test "t" { expect 2 { late { } } }`, nil, []string{"UNRESOLVED: 0 spawned 0, 2 late 0"}, [3]int{1, 1, 2}},
	})
}

// TestOutcomes: each outcome, with a clause of its kind, with steps and without, and without a clause.
func TestOutcomes(t *testing.T) { // P19.1
	one := func(clauses, stream, verdict, events string, fuel, ticks int) ran {
		return ran{`test "t" { expect 4 { ` + clauses + ` } send "s" }`, []string{stream}, []string{verdict + ": 0 spawned 0, " + events}, [3]int{1, fuel, ticks}}
	}
	runAll(t, []ran{
		one(`exact "b" { }`, "1:abc", "UNRESOLVED", "1 matched 0 b, 1 sent s", 2, 1),
		one(`late { } glob "b?" { send "g" }`, "1:abc", "UNRESOLVED", "1 matched 1 bc, 1 sent g, 1 sent s", 3, 1),
		one(`regex "[a-c]+" { pass }`, "1:abc", "PASS", "1 matched 0 abc, 1 passed", 2, 1),
		one(`full { pass } exact "" { }`, "1:abc", "UNRESOLVED", "0 matched 1, 0 sent s", 2, 0),
		one(`full { } exact "a" { }`, "1:012345678 1:901234567890", "UNRESOLVED", "2 filled 0 12345678901234567890, 2 sent s", 2, 2),
		one(`exact "a" { } full { fail }`, "1:0123456789 1:0123456789", "FAIL", "2 filled 1 01234567890123456789, 2 failed", 2, 2),
		one(`exact "a" { } late { }`, "1:0123456789 1:0123456789", "UNRESOLVED", "4 late 1, 4 sent s", 2, 4),
		one(`exact "a" { } eof { }`, "1:x 1:EOF", "UNRESOLVED", "2 over 1, 2 sent s", 2, 2),
		one(`eof { pass }`, "1:x 1:EOF", "PASS", "2 over 0, 2 passed", 2, 2),
		one(`death { pass } late { pass }`, "1:x 1:EOF", "UNRESOLVED", "2 over -1", 1, 2),
		one(`death { }`, "1:x 1:DEATH", "UNRESOLVED", "2 dead 0, 2 sent s", 2, 2),
		one(`late { } eof { } death { send "d" fail }`, "1:x 1:DEATH", "FAIL", "2 dead 2, 2 sent d, 2 failed", 3, 2),
		one(`eof { pass } late { pass }`, "1:x 1:DEATH", "UNRESOLVED", "2 dead -1", 1, 2),
		one(`late { }`, "5:x", "UNRESOLVED", "4 late 0, 4 sent s", 2, 4),
		one(`exact "x" { fail } late { pass }`, "5:x", "PASS", "4 late 1, 4 passed", 2, 4),
		one(`exact "x" { fail } eof { } death { } full { }`, "5:x", "UNRESOLVED", "4 late -1", 1, 4),
		one(`exact "x" { }`, "4:x", "UNRESOLVED", "4 matched 0 x, 4 sent s", 2, 4),
		{`test "t" budget 3 { expect 4 { late { pass } eof { pass } death { pass } full { pass } } send "s" }`, nil, []string{"UNRESOLVED: 0 spawned 0, 3 spent"}, [3]int{1, 1, 3}},
		{`test "t" budget 4 { expect 4 { late { pass } } send "s" }`, nil, []string{"PASS: 0 spawned 0, 4 late 0, 4 passed"}, [3]int{1, 2, 4}},
		{`test "t" budget 4 { wait 2 expect 2 { exact "x" { } } } test "u" { pass }`, nil, []string{"UNRESOLVED: 0 spawned 0, 2 waited 2, 4 late -1", "PASS: 0 spawned 1, 0 passed"}, [3]int{2, 3, 4}},
		{`test "t" budget 4 { wait 2 expect 3 { late { } exact "x" { pass } } }`, []string{"5:x"}, []string{"UNRESOLVED: 0 spawned 0, 2 waited 2, 4 spent"}, [3]int{1, 2, 4}},
		{`test "t" budget 4 { wait 2 expect 3 { late { } exact "x" { pass } } }`, []string{"4:x"}, []string{"PASS: 0 spawned 0, 2 waited 2, 4 matched 1 x, 4 passed"}, [3]int{1, 3, 4}},
		{`test "t" { expect 0 { exact "x" { pass } late { fail } } }`, []string{"0:x"}, []string{"PASS: 0 spawned 0, 0 matched 0 x, 0 passed"}, [3]int{1, 2, 0}},
		{`test "t" { expect 0 { exact "x" { pass } late { fail } } }`, []string{"1:x"}, []string{"FAIL: 0 spawned 0, 0 late 1, 0 failed"}, [3]int{1, 2, 0}},
	})
}

func TestNoClauses(t *testing.T) { // P19.1: without any clause each outcome that there can be decides
	g := api.Group{Tests: []api.Test{{Name: "t", Budget: 9, Steps: []api.Step{{Kind: api.Expect, N: 3}, {Kind: api.Pass}}}}}
	for stream, want := range map[string]string{"": "3 late -1", "1:a 1:EOF": "2 over -1", "3:DEATH": "3 dead -1", "1:xxxxxxxxxxxxxxxxxxxxxxxx": "3 late -1"} {
		r := hold(t, 0, g, someBoard, streams(stream), someConf)
		if got := fate(r.Entry.Results[0], r.Entry.Traces[0]); got != "UNRESOLVED: 0 spawned 0, "+want {
			t.Errorf("%s: %s", stream, got)
		}
	}
	g.Tests[0].Budget = 2
	r := hold(t, 0, g, someBoard, nil, someConf)
	if got := fate(r.Entry.Results[0], r.Entry.Traces[0]); got != "UNRESOLVED: 0 spawned 0, 2 spent" {
		t.Errorf("%s", got)
	}
}

func TestAgain(t *testing.T) { // P19.1: ended by a clause, by fuel and by the bound
	runAll(t, []ran{
		{`test "t" { expect 3 { exact "a" again { send "s" } exact "z" { pass } } }`, []string{"1:aa 3:a 3:z"}, []string{"PASS: 0 spawned 0, 1 matched 0 a, 1 sent s, 1 matched 0 a, 1 sent s, 4 matched 0 a, 4 sent s, 7 matched 1 z, 7 passed"}, [3]int{1, 8, 7}},
		{`test "t" { expect 3 { exact "a" again { } late { } } send "s" }`, []string{"1:aa 3:a 4:a"}, []string{"UNRESOLVED: 0 spawned 0, 1 matched 0 a, 1 matched 0 a, 4 matched 0 a, 7 late 1, 7 sent s"}, [3]int{1, 5, 7}},
		{`test "t" { expect 3 { regex "[0-9]" again { near 1 0 send "one" } } pass }`, []string{"1:11 1:2 1:1"}, []string{"FAIL: 0 spawned 0, 1 matched 0 1, 1 close, 1 sent one, 1 matched 0 1, 1 close, 1 sent one, 2 matched 0 2, 2 far"}, [3]int{1, 8, 2}},
		{`test "t" budget 5 { expect 3 { exact "a" again { } late { pass } } }`, []string{"1:a 2:a 3:a"}, []string{"UNRESOLVED: 0 spawned 0, 1 matched 0 a, 3 matched 0 a, 5 spent"}, [3]int{1, 3, 5}},
		{`test "t" { expect 3 { full again { send "f" } late { pass } exact "-" { fail } } }`, []string{"1:01234567890123456789 1:0123 1:4567890123456789 0:x"}, []string{"PASS: 0 spawned 0, 1 filled 0 01234567890123456789, 1 sent f, 3 filled 0 01234567890123456789, 3 sent f, 6 late 1, 6 passed"}, [3]int{1, 6, 6}},
		{`test "t" { expect 3 { exact "a" again { expect 2 { exact "b" { } late { pass } } } } }`, []string{"1:a 1:b 1:a"}, []string{"PASS: 0 spawned 0, 1 matched 0 a, 2 matched 0 b, 3 matched 0 a, 5 late 1, 5 passed"}, [3]int{1, 5, 5}},
		{`test "t" { expect 3 { exact "a" again { } eof { pass } } }`, []string{"0:a 1:a 1:EOF"}, []string{"PASS: 0 spawned 0, 0 matched 0 a, 1 matched 0 a, 2 over 1, 2 passed"}, [3]int{1, 4, 2}},
	})
	for fuel, want := range map[int]string{1: "0 matched 0, 0 nofuel", 2: "0 matched 0, 0 matched 0, 0 nofuel", 5: strings.Repeat("0 matched 0, ", 5) + "0 nofuel"} {
		ran{`test "t" { expect 3 { exact "" again { } } }`, nil, []string{"UNRESOLVED: 0 spawned 0, " + want}, [3]int{1, fuel, 0}}.run(t, Conf{Buffer: 3, Fuel: fuel})
	}
	ran{`test "t" { expect 3 { exact "" again { send "s" } } }`, nil, []string{"UNRESOLVED: 0 spawned 0, 0 matched 0, 0 sent s, 0 matched 0, 0 nofuel"}, [3]int{1, 3, 0}}.run(t, Conf{Buffer: 3, Fuel: 3})
}

func TestLoop(t *testing.T) { // P19.1
	sent := func(n int) string { return strings.Repeat(", 0 sent s", n) }
	runAll(t, []ran{
		{`test "t" { loop 0 { fail } pass }`, nil, []string{"PASS: 0 spawned 0, 0 passed"}, [3]int{1, 2, 0}},
		{`test "t" { loop 1 { send "s" } pass }`, nil, []string{"PASS: 0 spawned 0, 0 sent s, 0 passed"}, [3]int{1, 4, 0}},
		{`test "t" { loop 50 { send "s" } pass }`, nil, []string{"PASS: 0 spawned 0" + sent(50) + ", 0 passed"}, [3]int{1, 102, 0}},
		{`test "t" { loop 50 { } pass }`, nil, []string{"PASS: 0 spawned 0, 0 passed"}, [3]int{1, 52, 0}},
		{`test "t" { loop 2 { loop 3 { send "s" } send "-" } }`, nil, []string{"UNRESOLVED: 0 spawned 0" + strings.Repeat(sent(3)+", 0 sent -", 2)}, [3]int{1, 19, 0}},
		{`test "t" { loop 50 { loop 0 { fail } } pass }`, nil, []string{"PASS: 0 spawned 0, 0 passed"}, [3]int{1, 102, 0}},
		{`test "t" { loop 9 { send "s" pass send "-" } send "-" }`, nil, []string{"PASS: 0 spawned 0, 0 sent s, 0 passed"}, [3]int{1, 4, 0}},
		{`test "t" { loop 9 { loop 9 { send "s" fail } send "-" } send "-" }`, nil, []string{"FAIL: 0 spawned 0, 0 sent s, 0 failed"}, [3]int{1, 6, 0}},
		{`test "t" { loop 9 { expect 2 { exact "a" { } } } send "-" }`, []string{"1:aa 1:a"}, []string{"UNRESOLVED: 0 spawned 0, 1 matched 0 a, 1 matched 0 a, 2 matched 0 a, 4 late -1"}, [3]int{1, 9, 4}},
		{`test "t" { loop 9 { wait 2 near 1 1 } send "-" }`, nil, []string{"FAIL: 0 spawned 0, 2 waited 2, 2 far"}, [3]int{1, 4, 2}},
		{`test "t" budget 5 { loop 9 { wait 2 } send "-" }`, nil, []string{"UNRESOLVED: 0 spawned 0, 2 waited 2, 4 waited 2, 5 spent"}, [3]int{1, 7, 5}},
	})
	most := ran{`test "t" { loop 50 { loop 50 { loop 13 { } } } }`, nil, []string{"UNRESOLVED: 0 spawned 0"}, [3]int{1, 1 + 50*(2+50*(2+13)), 0}}
	most.run(t, Conf{Buffer: 1, Fuel: api.MaxFuel})
}

func TestNear(t *testing.T) { // P19.1
	near := func(steps, stream, verdict, events string, fuel int) ran {
		return ran{`test "t" { ` + steps + ` pass }`, []string{stream}, []string{verdict + ": 0 spawned 0, " + events}, [3]int{1, fuel, 0}}
	}
	number := `expect 1 { regex "=[0-9]*;" { } } `
	runAll(t, []ran{
		near(`near 0 9`, "0:=1;", "FAIL", "0 far", 1),
		near(number+`near 4 1`, "0:=5;", "PASS", "0 matched 0 =5;, 0 close, 0 passed", 3),
		near(number+`near 4 0.5`, "0:=5;", "FAIL", "0 matched 0 =5;, 0 far", 2),
		near(number+`near 4+1i 1`, "0:=5;", "PASS", "0 matched 0 =5;, 0 close, 0 passed", 3),
		near(number+`near 5+1i 0.5`, "0:=5;", "FAIL", "0 matched 0 =5;, 0 far", 2),
		near(number+`near 0 9`, "0:=;", "FAIL", "0 matched 0 =;, 0 far", 2),
		near(number+`near 5 0`, "0:7=5;6", "PASS", "0 matched 0 =5;, 0 close, 0 passed", 3),
		near(`expect 1 { regex "[a-z][^;]*;" { near 5 0 } }`, "0:4x5,6;", "PASS", "0 matched 0 x5,6;, 0 close, 0 passed", 3),
		near(number+`near 5 0 near 5 1 send "s" near 5 0`, "0:=5;", "PASS", "0 matched 0 =5;, 0 close, 0 close, 0 sent s, 0 close, 0 passed", 6),
		// Behind two Matcheds the last one counts alone, whatever it has.
		near(number+number+`near 6 0`, "0:=5;=6;", "PASS", "0 matched 0 =5;, 0 matched 0 =6;, 0 close, 0 passed", 4),
		near(number+number+`near 5 0`, "0:=5;=6;", "FAIL", "0 matched 0 =5;, 0 matched 0 =6;, 0 far", 3),
		near(number+number+`near 5 0`, "0:=5;=;", "FAIL", "0 matched 0 =5;, 0 matched 0 =;, 0 far", 3),
		near(number+`expect 0 { exact "" { } } near 5 0`, "0:=5;", "FAIL", "0 matched 0 =5;, 0 matched 0, 0 far", 3),
		// What isn't a Matched changes nothing.
		near(number+`expect 0 { exact "a" { } late { near 5 0 } }`, "0:=5;=6;", "PASS", "0 matched 0 =5;, 0 late 1, 0 close, 0 passed", 4),
		near(number+`expect 0 { exact "a" { } full { near 5 0 } }`, "0:=5; 0:=6;34567890123456789", "PASS", "0 matched 0 =5;, 0 filled 1 =6;34567890123456789, 0 close, 0 passed", 4),
		near(number+`expect 0 { eof { near 5 0 } }`, "0:=5; 0:EOF", "PASS", "0 matched 0 =5;, 0 over 0, 0 close, 0 passed", 4),
		near(number+`wait 0 near 5 0`, "0:=5; 0:=6;", "PASS", "0 matched 0 =5;, 0 waited 0, 0 close, 0 passed", 4),
		near(`expect 0 { full { near 6 0 } }`, "0:=6;34567890123456789", "FAIL", "0 filled 0 =6;34567890123456789, 0 far", 2),
		// In a second test nothing has matched yet.
		{`test "t" { ` + number + ` pass } test "u" { near 5 9 } test "v" { near 0 9 }`, []string{"0:=5;"}, []string{"PASS: 0 spawned 0, 0 matched 0 =5;, 0 passed", "FAIL: 0 far", "FAIL: 0 far"}, [3]int{1, 4, 0}},
		{`test "t" { ` + number + ` } test "u" { near 5 9 }`, []string{"0:=5;"}, []string{"UNRESOLVED: 0 spawned 0, 0 matched 0 =5;", "FAIL: 0 spawned 1, 0 far"}, [3]int{2, 2, 0}},
		{`test "t" { ` + number + ` pass } test "u" { ` + number + ` near 6 0 pass }`, []string{"0:=5;=6;"}, []string{"PASS: 0 spawned 0, 0 matched 0 =5;, 0 passed", "PASS: 0 matched 0 =6;, 0 close, 0 passed"}, [3]int{1, 5, 0}},
	})
	// The number is layer 1's, the longest at the first place.
	g := group(t, `test "t" { expect 1 { regex ".*;" { } } near 1500-2i 0 pass }`)
	if r := Run(0, g, someBoard, streams("0:ab+1.5e3-2i.7;"), someConf); r.Entry.Results[0].Verdict != api.PASS {
		t.Errorf("%+v", r)
	}
}

func TestWait(t *testing.T) { // P19.1
	runAll(t, []ran{
		{`test "t" { wait 0 wait 5 pass }`, nil, []string{"PASS: 0 spawned 0, 0 waited 0, 5 waited 5, 5 passed"}, [3]int{1, 3, 5}},
		{`test "t" { wait 5 expect 0 { exact "abc" { pass } } }`, []string{"1:a 2:b 2:c 1:d"}, []string{"PASS: 0 spawned 0, 5 waited 5, 5 matched 0 abc, 5 passed"}, [3]int{1, 3, 5}},
		{`test "t" { wait 5 expect 1 { exact "d" { pass } } }`, []string{"1:a 2:b 2:c 1:d"}, []string{"PASS: 0 spawned 0, 5 waited 5, 6 matched 0 d, 6 passed"}, [3]int{1, 3, 6}},
		{`test "t" { wait 5 wait 5 expect 0 { exact "ab" { } } expect 5 { eof { pass } } }`, []string{"1:a 5:b 1:EOF"}, []string{"PASS: 0 spawned 0, 5 waited 5, 7 waited 5, 7 matched 0 ab, 7 over 0, 7 passed"}, [3]int{1, 5, 7}},
		{`test "t" { wait 5 wait 5 pass }`, []string{"1:a 1:EOF"}, []string{"PASS: 0 spawned 0, 2 waited 5, 2 waited 5, 2 passed"}, [3]int{1, 3, 2}},
		{`test "t" { wait 5 wait 5 pass }`, []string{"1:a 1:DEATH"}, []string{"PASS: 0 spawned 0, 2 waited 5, 2 waited 5, 2 passed"}, [3]int{1, 3, 2}},
		{`test "t" { wait 5 pass }`, []string{"5:EOF"}, []string{"PASS: 0 spawned 0, 5 waited 5, 5 passed"}, [3]int{1, 2, 5}},
		{`test "t" { wait 5 expect 1 { death { pass } } }`, []string{"6:DEATH"}, []string{"PASS: 0 spawned 0, 5 waited 5, 6 dead 0, 6 passed"}, [3]int{1, 3, 6}},
		{`test "t" budget 4 { wait 3 pass }`, nil, []string{"PASS: 0 spawned 0, 3 waited 3, 3 passed"}, [3]int{1, 2, 3}},
		{`test "t" budget 4 { wait 4 pass }`, nil, []string{"PASS: 0 spawned 0, 4 waited 4, 4 passed"}, [3]int{1, 2, 4}},
		{`test "t" budget 4 { wait 5 pass }`, nil, []string{"UNRESOLVED: 0 spawned 0, 4 spent"}, [3]int{1, 1, 4}},
		{`test "t" budget 4 { wait 2 wait 2 wait 0 wait 1 pass }`, nil, []string{"UNRESOLVED: 0 spawned 0, 2 waited 2, 4 waited 2, 4 waited 0, 4 spent"}, [3]int{1, 4, 4}},
		{`test "t" budget 4 { wait 5 pass }`, []string{"2:a 2:EOF"}, []string{"PASS: 0 spawned 0, 4 waited 5, 4 passed"}, [3]int{1, 2, 4}},
		{`test "t" budget 4 { wait 5 pass }`, []string{"2:a 2:DEATH"}, []string{"PASS: 0 spawned 0, 4 waited 5, 4 passed"}, [3]int{1, 2, 4}},
		{`test "t" budget 4 { wait 5 pass }`, []string{"2:a 2:b 1:DEATH"}, []string{"UNRESOLVED: 0 spawned 0, 4 spent"}, [3]int{1, 1, 4}},
		{`test "t" { wait 2 expect 0 { exact "5" { fail } full { fail } late { pass } } }`, []string{"1:0123456 1:7890123456789"}, []string{"FAIL: 0 spawned 0, 2 waited 2, 2 matched 0 5, 2 failed"}, [3]int{1, 3, 2}},
		{`test "t" { wait 2 expect 0 { exact "x" { fail } full { fail } late { pass } } }`, []string{"1:0123456 1:7890123456789"}, []string{"PASS: 0 spawned 0, 2 waited 2, 2 late 2, 2 passed"}, [3]int{1, 3, 2}},
		{`test "t" { wait 2 expect 0 { regex ".*" { pass } } }`, []string{"1:xyz 1:01234567890123456789"}, []string{"PASS: 0 spawned 0, 2 waited 2, 2 matched 0 01234567890123456789, 2 passed"}, [3]int{1, 3, 2}},
	})
}

func TestOverAhead(t *testing.T) { // P19.1, P19.2: what stands behind an event that decides isn't done, and takes no fuel
	runAll(t, []ran{
		{`test "t" { pass fail send "-" } test "u" { fail pass send "-" }`, nil, []string{"PASS: 0 spawned 0, 0 passed", "FAIL: 0 failed"}, [3]int{1, 2, 0}},
		{`test "t" { near 1 1 pass }`, nil, []string{"FAIL: 0 spawned 0, 0 far"}, [3]int{1, 1, 0}},
		{`test "t" { expect 1 { late { pass send "-" } } send "-" }`, nil, []string{"PASS: 0 spawned 0, 1 late 0, 1 passed"}, [3]int{1, 2, 1}},
		{`test "t" { expect 1 { exact "" again { fail send "-" } } send "-" }`, nil, []string{"FAIL: 0 spawned 0, 0 matched 0, 0 failed"}, [3]int{1, 2, 0}},
		{`test "t" { loop 2 { expect 1 { late { loop 2 { near 1 1 send "-" } send "-" } } send "-" } send "-" }`, nil, []string{"FAIL: 0 spawned 0, 1 late 0, 1 far"}, [3]int{1, 6, 1}},
		{`test "t" { expect 2 { late { expect 3 { exact "x" { } } send "-" } } send "-" }`, nil, []string{"UNRESOLVED: 0 spawned 0, 2 late 0, 5 late -1"}, [3]int{1, 2, 5}},
		{`test "t" budget 3 { expect 2 { late { wait 2 send "-" } } send "-" }`, nil, []string{"UNRESOLVED: 0 spawned 0, 2 late 0, 3 spent"}, [3]int{1, 2, 3}},
		{`test "t" { loop 3 { expect 2 { exact "a" { } } send "s" } }`, []string{"1:a 1:EOF"}, []string{"UNRESOLVED: 0 spawned 0, 1 matched 0 a, 1 sent s, 2 over -1"}, [3]int{1, 6, 2}},
	})
}

func TestNextTest(t *testing.T) { // P19.1, P19.3
	runAll(t, []ran{
		// A test that ends without Pass or Fail leaves no session.
		{`test "t" { wait 1 } test "u" { expect 5 { exact "b" { pass } } } test "v" { } test "w" { pass }`, []string{"1:b", "3:b", "", "0:x"}, []string{"UNRESOLVED: 0 spawned 0, 1 waited 1", "PASS: 0 spawned 1, 3 matched 0 b, 3 passed", "UNRESOLVED:", "PASS: 0 spawned 2, 0 passed"}, [3]int{3, 4, 4}},
		{`test "t" { } test "u" { } test "v" { }`, nil, []string{"UNRESOLVED: 0 spawned 0", "UNRESOLVED: 0 spawned 1", "UNRESOLVED: 0 spawned 2"}, [3]int{3, 0, 0}},
		// Behind any other one the session goes on, with its buffer and its time.
		{`test "t" { expect 3 { exact "a" { pass } } } test "u" { expect 0 { exact "b" { fail } } } test "v" budget 4 { expect 4 { exact "c" { pass } } } test "w" budget 3 { expect 4 { late { } } }`, []string{"2:xaxbx 4:c"}, []string{"PASS: 0 spawned 0, 2 matched 0 a, 2 passed", "FAIL: 2 matched 0 b, 2 failed", "PASS: 6 matched 0 c, 6 passed", "UNRESOLVED: 9 spent"}, [3]int{1, 7, 9}},
		{`test "t" xfail x = "1" { wait 2 pass } test "u" xfail x = "1" { wait 2 near 1 1 } test "v" { expect 9 { eof { pass } } } test "w" { expect 9 { eof { pass } } }`, []string{"5:EOF"}, []string{"XPASS: 0 spawned 0, 2 waited 2, 2 passed", "XFAIL: 4 waited 2, 4 far", "PASS: 5 over 0, 5 passed", "PASS: 5 over 0, 5 passed"}, [3]int{1, 8, 5}},
		// An end stays for the tests behind, till a session of their own.
		{`test "t" { wait 9 pass } test "u" { expect 9 { exact "a" { pass } } } test "v" { expect 9 { exact "a" { pass } } }`, []string{"1:DEATH", "2:a"}, []string{"PASS: 0 spawned 0, 1 waited 9, 1 passed", "UNRESOLVED: 1 dead -1", "PASS: 0 spawned 1, 2 matched 0 a, 2 passed"}, [3]int{2, 5, 3}},
		// The old session's buffer is not the new one's.
		{`test "t" { wait 2 } test "u" { expect 2 { exact "a" { fail } late { pass } } }`, []string{"1:a", ""}, []string{"UNRESOLVED: 0 spawned 0, 2 waited 2", "PASS: 0 spawned 1, 2 late 1, 2 passed"}, [3]int{2, 3, 4}},
	})
}

func TestFuel(t *testing.T) { // P19.1
	tests := `test "t" { send "a" loop 2 { send "b" } expect 2 { late { send "c" } } pass } test "u" untested test "v" { fail }`
	whole := []string{"0 sent a", "", "", "0 sent b", "", "0 sent b", "2 late 0", "2 sent c", "2 passed"} // what each fuel of t brings
	for _, fuel := range []int{math.MinInt, -1, 0, 1, 2, 3, 4, 5, 6, 7, 8, 9, 10, 11, api.MaxFuel - 1, api.MaxFuel, api.MaxFuel + 1, 1 << 33, math.MaxInt} {
		have := min(max(fuel, 0), api.MaxFuel)
		events, at := "0 spawned 0", 0
		for _, e := range whole[:min(have, 9)] {
			if e != "" {
				events += ", " + e
				at = int(e[0] - '0')
			}
		}
		x := ran{tests: tests, want: []string{"PASS: " + events, "UNTESTED:", "FAIL: 2 failed"}}
		left, sessions := max(have-10, 0), 1
		if have < 9 {
			x.want = []string{"UNRESOLVED: " + events + ", " + string(rune('0'+at)) + " nofuel", "UNTESTED:", "UNRESOLVED: 0 spawned 1, 0 nofuel"}
			sessions = 2
		} else if have == 9 {
			x.want[2] = "UNRESOLVED: 2 nofuel"
		}
		x.report = [3]int{sessions, max(fuel, 0) - left, at}
		x.run(t, Conf{Buffer: 20, Fuel: fuel})
	}
	// A test without steps takes none, and isn't ended by that there is none.
	ran{`test "t" { } test "u" { loop 0 { } }`, nil, []string{"UNRESOLVED: 0 spawned 0", "UNRESOLVED: 0 spawned 1, 0 nofuel"}, [3]int{2, 0, 0}}.run(t, Conf{})
}

func TestBuffer(t *testing.T) { // P19.1
	all := strings.Repeat("0123456789", 250)
	for _, most := range []int{math.MinInt, -1, 0, 1, 2, 3, api.MaxBuffer - 1, api.MaxBuffer, api.MaxBuffer + 1, math.MaxInt} {
		there := all[len(all)-min(max(most, 1), api.MaxBuffer):]
		x := ran{`test "t" { wait 1 expect 0 { regex ".*" { } } expect 1 { full { pass } } }`, []string{"1:" + all + " 1:" + all[:2499] + " 0:9"}, []string{"PASS: 0 spawned 0, 1 waited 1, 1 matched 0 " + there + ", 2 filled 0 " + all[2499-len(there):2499] + ", 2 passed"}, [3]int{1, 4, 2}}
		x.run(t, Conf{Buffer: most, Fuel: 9})
	}
}

func TestXfail(t *testing.T) { // P19.2
	steps := map[string][2]string{
		`{ pass }`:                       {"PASS: 0 spawned 0, 0 passed", "XPASS: 0 spawned 0, 0 passed"},
		`{ fail }`:                       {"FAIL: 0 spawned 0, 0 failed", "XFAIL: 0 spawned 0, 0 failed"},
		`{ near 1 1 }`:                   {"FAIL: 0 spawned 0, 0 far", "XFAIL: 0 spawned 0, 0 far"},
		`{ }`:                            {"UNRESOLVED: 0 spawned 0", "UNRESOLVED: 0 spawned 0"},
		`{ expect 0 { exact "a" { } } }`: {"UNRESOLVED: 0 spawned 0, 0 late -1", "UNRESOLVED: 0 spawned 0, 0 late -1"},
		`untested`:                       {"UNTESTED:", "UNTESTED:"},
		`unsupported`:                    {"UNSUPPORTED:", "UNSUPPORTED:"},
	}
	conds := map[string]int{
		``: 0, `xfail x = "1"`: 1, `xfail x = "3"`: 0, `xfail x != "3"`: 1, `xfail y = "2" & x = "1"`: 1, `xfail y = "2" & x = "2"`: 0,
		`xfail y = "3" | ! z = "1"`: 1, `xfail x = "2" xfail y = "2"`: 1, `xfail y = "2" xfail x = "2"`: 1, `xfail x = "2" xfail y = "1"`: 0,
	}
	for c, holds := range conds {
		for s, want := range steps {
			sessions, fuel := 1, 1
			if s[0] != '{' {
				sessions, fuel = 0, 0
			} else if s == `{ }` {
				fuel = 0
			}
			ran{`test "t" ` + c + ` ` + s, nil, []string{want[holds]}, [3]int{sessions, fuel, 0}}.run(t, someConf)
		}
	}
	g := group(t, `test "t" xfail x != "1" { pass }`)
	for _, b := range []api.Board{{}, {Props: []api.Prop{{Name: "y", Val: "1"}}}, {Props: []api.Prop{{Name: "x", Val: "2"}, {Name: "x", Val: "1"}}}} {
		if r := hold(t, 0, g, b, nil, someConf); r.Entry.Results[0].Verdict != api.XPASS {
			t.Errorf("%v: %+v", b, r)
		}
	}
}

func TestReport(t *testing.T) { // P19.1, P19.3: all sessions' ticks, as they were when they were left
	runAll(t, []ran{
		{`test "t" { wait 3 } test "u" { wait 4 } test "v" { wait 5 pass }`, nil, []string{"UNRESOLVED: 0 spawned 0, 3 waited 3", "UNRESOLVED: 0 spawned 1, 4 waited 4", "PASS: 0 spawned 2, 5 waited 5, 5 passed"}, [3]int{3, 4, 12}},
		{`test "t" { wait 3 pass } test "u" { wait 4 pass } test "v" { wait 5 }`, nil, []string{"PASS: 0 spawned 0, 3 waited 3, 3 passed", "PASS: 7 waited 4, 7 passed", "UNRESOLVED: 12 waited 5"}, [3]int{1, 5, 12}},
		{`test "t" budget 1000000 { wait 1000000 } test "u" budget 1000000 { wait 1000000 pass } test "v" budget 1000000 { wait 1000000 wait 1 }`, nil, []string{"UNRESOLVED: 0 spawned 0, 1000000 waited 1000000", "PASS: 0 spawned 1, 1000000 waited 1000000, 1000000 passed", "UNRESOLVED: 2000000 waited 1000000, 2000000 spent"}, [3]int{2, 5, 3000000}},
	})
}

func TestManyTicks(t *testing.T) { // P19.3: more ticks than 32 bits hold
	g := api.Group{}
	for i := range 50 {
		steps := []api.Step{{Kind: api.Wait, N: api.MaxTicks}}
		g.Tests = append(g.Tests, api.Test{Name: "t" + strconv.Itoa(i), Budget: api.MaxTicks, Steps: append(steps, api.Step{Kind: api.Pass})})
	}
	r := Run(0, g, someBoard, nil, someConf)
	holdPromises(t, g, someConf, r)
	if r.Ticks != 50*api.MaxTicks || r.Sessions != 1 {
		t.Errorf("%d ticks, %d sessions", r.Ticks, r.Sessions)
	}
	r = Run(0, g, someBoard, []api.Stream{{End: api.AtEof, Wait: math.MaxInt}}, someConf)
	holdPromises(t, g, someConf, r)
	if r.Ticks != api.MaxTicks { // an end's ticks are no more than that
		t.Errorf("%d ticks", r.Ticks)
	}
}

// TestSent: a board has no answer to what it is sent, so only the session tells of it.
func TestSent(t *testing.T) { // P19.1
	g := group(t, `test "t" { send "ab" send "" loop 2 { send "c\n" } expect 1 { late { send "d" } } pass } test "u" { send "e" fail send "-" }`)
	r := &runner{most: 9, fuel: 100}
	r.test(g.Tests[0])
	r.test(g.Tests[1])
	if sent := string(r.session.Sent()); sent != "abc\nc\nde" {
		t.Errorf("%q was sent", sent)
	}
}

func TestFuelForMost(t *testing.T) { // P19.1: as much as there may be, with patterns that are made again and again
	long := strings.Repeat("(a|b)?", 42)
	g := group(t, `test "t" { loop 50 { loop 50 { loop 50 { expect 0 { regex "`+long+`c" { } glob "`+strings.Repeat("[!a-y]", 40)+`" { } late { } } } } } }`)
	r := Run(0, g, someBoard, streams("0:ababx"), Conf{Buffer: api.MaxBuffer, Fuel: api.MaxFuel})
	holdPromises(t, g, someConf, r)
	es := r.Entry.Traces[0]
	if r.Fuel != 0 || es[len(es)-1].Kind != api.NoFuel || len(es) < 40000 {
		t.Errorf("%d fuel left, %d events", r.Fuel, len(es))
	}
}
