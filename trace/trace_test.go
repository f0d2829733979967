package trace

import (
	"math"
	"slices"
	"strings"
	"testing"

	"colloquy/api"
)

// event is one of a Kind, with a number, at 0.
func event(kind, n int) api.Event {
	return api.Event{Kind: kind, N: n}
}

// at is an event that may stand anywhere, at a time.
func at(ticks int64) api.Event {
	return api.Event{Kind: api.Sent, Text: "x", At: ticks}
}

// right: a trace is right, or isn't.
func right(t *testing.T, want bool, es ...api.Event) {
	t.Helper()
	if Right(es) != want {
		t.Errorf("Right(%v) isn't %v", es, want)
	}
}

// someKinds are all Kinds, and numbers that are none.
var someKinds = []int{math.MinInt, -14, -1, 0, 1, 2, 3, 4, 5, 6, 7, 8, 9, 10, 11, 12, 13, 14, 15, 16, 1 << 8, 1<<8 + 12, 1 << 32, 1<<32 + 12, math.MaxInt}

var someNumbers = []int{math.MinInt, -1 << 32, -2, -1, 0, 1, 2, 1 << 32, math.MaxInt}

func TestDecides(t *testing.T) { // P18.1
	for _, kind := range someKinds {
		for _, n := range someNumbers {
			for _, text := range []string{"", "x"} {
				for _, ticks := range []int64{-1, 0, 7} {
					e := api.Event{Kind: kind, N: n, Text: text, At: ticks}
					if Decides(e) != plainDecides(e) {
						t.Errorf("Decides(%v) isn't %v", e, plainDecides(e))
					}
				}
			}
		}
	}
	for kind := range 16 { // by the chapter's words
		below := kind >= api.Over && kind <= api.TimedOut
		always := kind == api.Spent || kind == api.NoFuel || kind == api.Far || kind == api.Passed || kind == api.Failed
		for n := -2; n <= 1; n++ {
			if got := Decides(event(kind, n)); got != (always || below && n < 0) {
				t.Errorf("Kind %d, N %d decides: %v", kind, n, got)
			}
		}
	}
}

func TestEvents(t *testing.T) { // P18.1: an event alone
	for _, kind := range someKinds {
		for _, n := range someNumbers {
			for _, text := range []string{"", "x", "\x00", "long " + strings.Repeat("x", 1000)} {
				for _, ticks := range []int64{math.MinInt64, -1, 0, 1, 1000000, math.MaxInt64} {
					e := api.Event{Kind: kind, N: n, Text: text, At: ticks}
					right(t, plainRight([]api.Event{e}), e)
				}
			}
		}
	}
}

func TestKindsAndNumbers(t *testing.T) { // P18.1: by the chapter's words
	least := map[int]string{ // which of the N -2, -1, 0 and 1 may stand
		api.Spawned: "01", api.Sent: "0", api.Matched: "01", api.Filled: "01", api.Over: "-01", api.Dead: "-01", api.TimedOut: "-01",
		api.Spent: "0", api.NoFuel: "0", api.Close: "0", api.Far: "0", api.Passed: "0", api.Failed: "0", api.Waited: "01",
	}
	for kind := -1; kind <= 16; kind++ {
		for n, sign := range map[int]string{-2: "=", -1: "-", 0: "0", 1: "1"} {
			right(t, strings.Contains(least[kind], sign), event(kind, n))
		}
		texts := kind == api.Sent || kind == api.Matched || kind == api.Filled
		right(t, texts, api.Event{Kind: kind, Text: "x"})
		right(t, kind >= 1 && kind <= 14 && kind != api.Spawned, api.Event{Kind: kind, At: 1})
	}
}

func TestExampleTraces(t *testing.T) { // P18.1
	right(t, true)
	for _, es := range [][]api.Event{nil, {}, []api.Event{event(99, 0)}[:0], make([]api.Event, 0, 4)} {
		right(t, true, es...)
	}
	right(t, true, event(api.Spawned, 0), at(0), api.Event{Kind: api.Matched, Text: "ok", At: 2}, api.Event{Kind: api.Passed, At: 2})
	right(t, true, event(api.Spawned, 0), api.Event{Kind: api.TimedOut, N: -1, At: 5})
	right(t, true, at(3), api.Event{Kind: api.Over, N: 1, At: 4}, api.Event{Kind: api.Close, At: 4}, event(api.Spawned, 1), api.Event{Kind: api.Waited, N: 2, At: 2}, api.Event{Kind: api.Filled, N: 3, Text: "", At: 2}, api.Event{Kind: api.NoFuel, At: 2})
}

func TestTimesOfTraces(t *testing.T) { // P18.1: At doesn't fall but at a Spawned, where it is 0
	spawned := func(n int, ticks int64) api.Event { return api.Event{Kind: api.Spawned, N: n, At: ticks} }
	right(t, true, at(5)) // a first At needn't be 0
	right(t, true, at(math.MaxInt64), at(math.MaxInt64))
	right(t, true, at(0), at(0), at(1), at(1), at(7))
	right(t, false, at(-1))
	right(t, false, at(math.MinInt64), at(0))
	right(t, false, at(0), at(-1))
	right(t, false, at(2), at(1))
	right(t, false, at(2), at(3), at(2))
	right(t, false, at(2), at(0))
	right(t, false, at(2), at(1), at(3)) // it falls where it isn't the last
	right(t, true, spawned(0, 0))
	right(t, false, spawned(0, 1)) // a Spawned elsewhere than at 0
	right(t, false, spawned(0, -1))
	right(t, false, at(0), spawned(0, 1))
	right(t, false, at(1), spawned(0, 1))
	right(t, false, at(9), spawned(0, 1))
	right(t, false, at(0), spawned(0, -1))
	right(t, true, at(9), spawned(1, 0), at(3))
	right(t, true, at(9), spawned(0, 0), at(0), at(4), spawned(0, 0), spawned(7, 0), at(2))
	right(t, false, at(9), spawned(0, 0), at(4), at(3))
	right(t, false, at(9), spawned(0, 0), at(-1))
	for _, kind := range []int{2, 3, 4, 5, 6, 7, 8, 9, 10, 11, 12, 13, 14} { // nowhere else
		right(t, false, at(2), api.Event{Kind: kind, At: 1})
		right(t, false, at(2), api.Event{Kind: kind, At: 0})
		right(t, true, at(2), api.Event{Kind: kind, At: 2})
		right(t, true, spawned(0, 0), at(2), spawned(1, 0), api.Event{Kind: kind, At: 1})
	}
}

func TestDecidedTraces(t *testing.T) { // P18.1: an event that decides at the end, and ahead of it
	for kind := 1; kind <= 14; kind++ {
		for n := -1; n <= 1; n++ {
			e := event(kind, n)
			if !plainRight([]api.Event{e}) {
				continue
			}
			free := !Decides(e)
			right(t, true, e)
			right(t, true, event(api.Spawned, 0), at(0), e)
			right(t, free, e, at(0))
			right(t, free, e, e)
			right(t, free, e, event(api.Spawned, 1))
			right(t, free, e, event(api.Passed, 0))
			right(t, free, at(0), e, at(0), at(1))
			right(t, free, at(0), e, at(0), event(api.Failed, 0))
		}
	}
}

func TestWrongAnywhere(t *testing.T) { // P18.1: a trace is right if each of its events is
	for _, wrong := range []api.Event{{}, event(15, 0), event(-1, 0), event(api.Sent, 1), event(api.Sent, -1), event(api.Matched, -1), event(api.Spawned, -1), event(api.Waited, -1), event(api.Over, -2), {Kind: api.Waited, Text: "x"}, {Kind: api.Spawned, Text: "x"}, {Kind: api.Over, Text: "x"}, {Kind: api.Close, Text: "x"}, event(api.Close, 1), {Kind: api.Spawned, At: 1}} {
		for place := range 4 {
			es := slices.Insert([]api.Event{at(0), at(0), at(0)}, place, wrong)
			right(t, false, es...)
			es[place] = at(0)
			right(t, true, es...)
		}
	}
}

func TestVerdictOfKinds(t *testing.T) { // P18.1
	for _, e := range someEvents() {
		for _, xfail := range []bool{false, true} {
			for _, es := range [][]api.Event{nil, {}, {e}, {e, e}, {{Kind: 99}, e}} {
				if v := Verdict(api.Untested, es, xfail); v != api.UNTESTED {
					t.Errorf("of Untested %d", v)
				}
				if v := Verdict(api.Unsupported, es, xfail); v != api.UNSUPPORTED {
					t.Errorf("of Unsupported %d", v)
				}
				run := Verdict(api.Run, es, xfail)
				for _, kind := range []int{math.MinInt, -1, 3, 4, 7, 1 << 8, 1<<8 + 1, 1 << 32, 1<<32 + 1, 1<<32 + 2, math.MaxInt} {
					if v := Verdict(kind, es, xfail); v != run || run != plainVerdict(es, xfail) {
						t.Errorf("Verdict(%d, %v, %v) = %d, of Run %d", kind, es, xfail, v, run)
					}
				}
			}
		}
	}
}

func TestVerdictOfEvents(t *testing.T) { // P18.1: each event that decides
	for _, x := range []struct {
		e    api.Event
		v, x int
	}{
		{event(api.Passed, 0), api.PASS, api.XPASS}, {event(api.Failed, 0), api.FAIL, api.XFAIL}, {event(api.Far, 0), api.FAIL, api.XFAIL},
		{event(api.Over, -1), api.UNRESOLVED, api.UNRESOLVED}, {event(api.Dead, -1), api.UNRESOLVED, api.UNRESOLVED}, {event(api.TimedOut, -1), api.UNRESOLVED, api.UNRESOLVED},
		{event(api.Over, -7), api.UNRESOLVED, api.UNRESOLVED}, {event(api.Spent, 0), api.UNRESOLVED, api.UNRESOLVED}, {event(api.NoFuel, 0), api.UNRESOLVED, api.UNRESOLVED},
		{event(api.Passed, -5), api.PASS, api.XPASS}, {event(api.Failed, 9), api.FAIL, api.XFAIL}, {api.Event{Kind: api.Far, Text: "x", At: -3}, api.FAIL, api.XFAIL}, // a trace needn't be right
	} {
		for _, ahead := range [][]api.Event{nil, {at(0)}, {event(api.Spawned, 0), at(1), event(api.Over, 0), event(api.Dead, 1), event(api.TimedOut, 2), event(api.Close, 0), event(api.Waited, 3), event(api.Matched, -1), event(api.Filled, -1), event(0, -1), event(15, -1)}} {
			for _, behind := range [][]api.Event{nil, {event(api.Passed, 0)}, {event(api.Failed, 0)}, {event(api.Spent, 0), event(api.Passed, 0)}, {at(0), event(api.Far, 0)}} {
				es := slices.Concat(ahead, []api.Event{x.e}, behind)
				if v, xv := Verdict(api.Run, es, false), Verdict(api.Run, es, true); v != x.v || xv != x.x {
					t.Errorf("Verdict of %v = %d, with xfail %d", es, v, xv)
				}
			}
			if v, xv := Verdict(api.Run, ahead, false), Verdict(api.Run, ahead, true); v != api.UNRESOLVED || xv != api.UNRESOLVED {
				t.Errorf("Verdict of %v = %d, with xfail %d", ahead, v, xv)
			}
		}
	}
}

func TestExample(t *testing.T) { // P18.1
	es := []api.Event{at(0), event(api.Matched, 0), event(api.Passed, 0)}
	if Verdict(api.Run, es, false) != api.PASS || Verdict(api.Run, es, true) != api.XPASS {
		t.Error("Sent, Matched, Passed")
	}
	es = []api.Event{event(api.TimedOut, -1)}
	if Verdict(api.Run, es, false) != api.UNRESOLVED {
		t.Error("TimedOut -1")
	}
	es = []api.Event{event(api.TimedOut, 1), event(api.Failed, 0)}
	if Verdict(api.Run, es, false) != api.FAIL {
		t.Error("TimedOut 1, Failed")
	}
}

func TestWords(t *testing.T) { // P18.1
	all := map[string]int{"PASS": 1, "FAIL": 2, "XPASS": 3, "XFAIL": 4, "UNRESOLVED": 5, "UNTESTED": 6, "UNSUPPORTED": 7}
	for word, v := range all {
		if Text(v) != word || Parse(word) != v {
			t.Errorf("%d is %q, and %q is %d", v, Text(v), word, Parse(word))
		}
		others := []string{strings.ToLower(word), word[:1] + strings.ToLower(word[1:]), strings.ToLower(word[:1]) + word[1:], word + " ", " " + word, word + "\n", word + "\x00", word + "S", "X" + word, word[1:], word[:len(word)-1], word + word, word + ":", word + strings.Repeat(" ", 1<<20)}
		for i := range len(word) {
			for c := range 256 {
				others = append(others, word[:i]+string([]byte{byte(c)})+word[i+1:])
			}
		}
		for _, other := range others {
			if got := Parse(other); got != all[other] {
				t.Errorf("Parse(%.50q) = %d", other, got)
			}
		}
	}
	for _, other := range []string{"", " ", "0", "1", "7", "KFAIL", "ERROR", "RUN", "\xff"} {
		if v := Parse(other); v != 0 {
			t.Errorf("Parse(%q) = %d", other, v)
		}
	}
	for _, v := range []int{math.MinInt, -1 << 32, -8, -7, -1, 0, 8, 9, 15, 1 << 8, 1<<8 + 1, 1 << 32, 1<<32 + 1, math.MaxInt} {
		if word := Text(v); word != "" {
			t.Errorf("Text(%d) = %q", v, word)
		}
	}
}

func results(verdicts ...int) []api.Result {
	var rs []api.Result
	for _, v := range verdicts {
		rs = append(rs, api.Result{Name: "t", Verdict: v})
	}
	return rs
}

func TestCount(t *testing.T) { // P18.1
	for i, x := range []struct {
		rs   []api.Result
		want [8]int
	}{
		{nil, [8]int{}}, {[]api.Result{}, [8]int{}}, {results(1, 2, 3)[:0], [8]int{}},
		{results(1), [8]int{0, 1}}, {results(7), [8]int{7: 1}}, {results(7, 6, 5, 4, 3, 2, 1), [8]int{0, 1, 1, 1, 1, 1, 1, 1}},
		{results(5, 1, 5, 2, 5), [8]int{1: 1, 2: 1, 5: 3}}, {results(0), [8]int{1}},
		{results(8, -1, 9, 1<<32, 1<<32+1, 1<<8+1, math.MinInt, math.MaxInt, -7, 3), [8]int{0: 9, 3: 1}},
		{[]api.Result{{}, {Name: "PASS"}, {Verdict: 1}}, [8]int{2, 1}},
		{results(slices.Repeat([]int{1, 4, 8}, 100000)...), [8]int{0: 100000, 1: 100000, 4: 100000}},
	} {
		if got := Count(x.rs); got != x.want {
			t.Errorf("%d: %v, not %v", i, got, x.want)
		}
	}
}

func TestLongTraces(t *testing.T) { // DOC P1
	es := make([]api.Event, 1000000)
	for i := range es {
		es[i] = at(int64(i))
	}
	last := len(es) - 1
	right(t, true, es...)
	if Verdict(api.Run, es, true) != api.UNRESOLVED {
		t.Error("of nothing that decides")
	}
	es[last].At = 0
	if Right(es) {
		t.Error("At falls at the end")
	}
	es[last] = api.Event{Kind: api.Passed, At: math.MaxInt64}
	if !Right(es) || Verdict(api.Run, es, true) != api.XPASS {
		t.Error("Passed at the end")
	}
	es[last-1].Kind, es[last-1].Text = api.Failed, ""
	if Right(es) || Verdict(api.Run, es, false) != api.FAIL {
		t.Error("Failed ahead of the end")
	}
}

// TestArgumentsStay looks behind the lists' lengths, too.
func TestArgumentsStay(t *testing.T) { // P18.3
	es := []api.Event{event(api.Spawned, 0), at(1), {Kind: api.Over, N: -3, Text: "wrong", At: 1}, event(api.Passed, 0), {Kind: 99, N: -3, At: -1}}
	ahead := slices.Clone(es)
	for n := range es {
		for _, e := range es[:n] {
			Decides(e)
		}
		Right(es[:n])
		for kind := range 4 {
			Verdict(kind, es[:n], n%2 == 0)
		}
	}
	if !slices.Equal(es, ahead) {
		t.Errorf("the events are %v now", es)
	}
	rs := results(1, 9, -1, 4, 7)
	before := slices.Clone(rs)
	one := Count(rs[:3])
	two := Count(rs[:3])
	one[1]++
	if !slices.Equal(rs, before) || two != [8]int{2, 1} || Count(rs[:3]) != two {
		t.Errorf("the results are %v now, %v, %v", rs, one, two)
	}
}
