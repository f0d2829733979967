package book

import (
	"bytes"
	"math"
	"math/rand"
	"slices"
	"strings"
	"testing"

	"colloquy/api"
)

// oneEvent is an entry of one test in which just this has happened.
func oneEvent(es ...api.Event) api.Entry {
	return api.Entry{Results: []api.Result{{Name: "t", Verdict: 1}}, Traces: [][]api.Event{es}}
}

// boundEntries are right, at their bounds.
func boundEntries() []api.Entry {
	long := strings.Repeat("\n", 1<<20)
	return []api.Entry{
		{}, {Group: 1}, {Group: 1 << 20}, {Results: []api.Result{}, Traces: [][]api.Event{}}, {Traces: [][]api.Event{}},
		{Results: []api.Result{{Name: "n", Verdict: 1}}, Traces: [][]api.Event{nil}}, {Results: []api.Result{{Name: strings.Repeat("\xff", 80), Verdict: 7}}, Traces: [][]api.Event{{}}},
		{Group: 127, Results: slices.Repeat([]api.Result{{Name: "n", Verdict: 2}}, 300), Traces: make([][]api.Event, 300)},
		oneEvent(api.Event{Kind: api.Spawned, N: 1 << 40}), oneEvent(api.Event{Kind: api.Matched, N: 1 << 40}), oneEvent(api.Event{Kind: api.Filled, N: 1 << 40}), oneEvent(api.Event{Kind: api.Over, N: 1 << 40}), oneEvent(api.Event{Kind: api.Dead, N: 1 << 40}), oneEvent(api.Event{Kind: api.TimedOut, N: 1 << 40}), oneEvent(api.Event{Kind: api.Waited, N: 1 << 40}),
		oneEvent(api.Event{Kind: api.Over, N: -1}), oneEvent(api.Event{Kind: api.Dead, N: -1, At: 1 << 50}), oneEvent(api.Event{Kind: api.TimedOut, N: -1}), oneEvent(api.Event{Kind: api.Passed, At: 1 << 50}), oneEvent(api.Event{Kind: api.Waited, At: 1<<50 - 1}, api.Event{Kind: api.Sent, At: 1 << 50}),
		oneEvent(api.Event{Kind: api.Sent, Text: long}), oneEvent(api.Event{Kind: api.Matched, Text: long}, api.Event{Kind: api.Filled, Text: long}),
		oneEvent(api.Event{Kind: api.Sent, At: 9}, api.Event{Kind: api.Spawned, N: 1}, api.Event{Kind: api.Passed}), oneEvent(api.Event{Kind: api.Spent}), oneEvent(api.Event{Kind: api.NoFuel}), oneEvent(api.Event{Kind: api.Close}), oneEvent(api.Event{Kind: api.Far}), oneEvent(api.Event{Kind: api.Failed}),
	}
}

// wrongEntries aren't right, in one thing each.
func wrongEntries() []api.Entry {
	long := strings.Repeat("\n", 1<<20+1)
	none := []api.Entry{
		{Group: -1}, {Group: 1<<20 + 1}, {Group: math.MinInt}, {Group: math.MaxInt}, {Group: 1 << 32},
		{Results: []api.Result{{Name: "t", Verdict: 1}}}, {Traces: [][]api.Event{nil}}, {Traces: make([][]api.Event, 300)},
		{Results: []api.Result{{Name: "t", Verdict: 1}}, Traces: [][]api.Event{nil, nil}}, {Results: []api.Result{{Name: "t", Verdict: 1}, {Name: "t", Verdict: 1}}, Traces: [][]api.Event{nil}},
		{Results: []api.Result{{Verdict: 1}}, Traces: [][]api.Event{nil}}, {Results: []api.Result{{Name: strings.Repeat("n", 81), Verdict: 1}}, Traces: [][]api.Event{nil}},
		{Results: []api.Result{{Name: "t", Verdict: 1}, {Name: "", Verdict: 1}}, Traces: [][]api.Event{nil, nil}},
		oneEvent(api.Event{Kind: api.Passed, At: 1<<50 + 1}), oneEvent(api.Event{Kind: api.Passed, At: -1}), oneEvent(api.Event{Kind: api.Passed, At: math.MinInt64}), oneEvent(api.Event{Kind: api.Waited, At: math.MaxInt64}),
		oneEvent(api.Event{Kind: api.Waited, At: 5}, api.Event{Kind: api.Waited, At: 4}), oneEvent(api.Event{Kind: api.Spawned, At: 1}), oneEvent(api.Event{Kind: api.Passed}, api.Event{Kind: api.Passed}), oneEvent(api.Event{Kind: api.Over, N: -1}, api.Event{Kind: api.Waited}),
		oneEvent(api.Event{Kind: api.Sent, Text: long}), oneEvent(api.Event{Kind: api.Matched, Text: long}), oneEvent(api.Event{Kind: api.Filled, Text: long}), oneEvent(api.Event{Kind: api.Waited}, api.Event{Kind: api.Sent, Text: long}),
	}
	for _, v := range []int{0, 8, -1, math.MaxInt, math.MinInt, 1<<32 + 1} {
		none = append(none, api.Entry{Results: []api.Result{{Name: "t", Verdict: v}}, Traces: [][]api.Event{nil}})
	}
	for kind := -1; kind <= 16; kind++ {
		if kind < 1 || kind > 14 {
			none = append(none, oneEvent(api.Event{Kind: kind}))
			continue
		}
		none = append(none, oneEvent(api.Event{Kind: kind, N: -2}), oneEvent(api.Event{Kind: kind, N: 1<<40 + 1}), oneEvent(api.Event{Kind: kind, N: math.MaxInt}), oneEvent(api.Event{Kind: kind, N: math.MinInt}))
		if !plainHas(kind, " N") {
			none = append(none, oneEvent(api.Event{Kind: kind, N: 1}))
		}
		if kind < api.Over || kind > api.TimedOut {
			none = append(none, oneEvent(api.Event{Kind: kind, N: -1}))
		}
		if !plainHas(kind, "Text") {
			none = append(none, oneEvent(api.Event{Kind: kind, Text: "a"}))
		}
	}
	return none
}

func TestPackExample(t *testing.T) { // P21.1, P21.2
	e := api.Entry{Group: 300, Results: []api.Result{{Name: "t", Verdict: 2}, {Name: "uv", Verdict: 6}}, Traces: [][]api.Event{{{Kind: 1}, {Kind: 3, N: 1, Text: "abc", At: 5}, {Kind: 7, N: -1, At: 128}}, nil}}
	want := []byte{172, 2, 2, 1, 't', 2, 3, 1, 1, 0, 0, 3, 2, 5, 3, 'a', 'b', 'c', 7, 0, 128, 1, 0, 2, 'u', 'v', 6, 0}
	b, code := Pack(e)
	if code != api.OK || !bytes.Equal(b, want) {
		t.Errorf("%v, %d", b, code)
	}
	got, code := Unpack(want)
	if code != api.OK || !same(got, e) {
		t.Errorf("%v, %d", got, code)
	}
}

// holdEntry holds what is told of an entry against the chapter's words.
func holdEntry(t *testing.T, e api.Entry) {
	t.Helper()
	right := plainRight(e)
	b, code := Pack(e)
	if Right(e) != right || (code == api.OK) != right {
		t.Fatalf("%.200v: %v, %d, not %v", e, Right(e), code, right)
	}
	if !right {
		if code != api.ErrArg || len(b) != 0 {
			t.Fatalf("%.200v: %.50v, %d", e, b, code)
		}
		return
	}
	if !bytes.Equal(b, plainBytes(e)) {
		t.Fatalf("%.200v: %.50v, not %.50v", e, b, plainBytes(e))
	}
	if got, code := Unpack(b); code != api.OK || !same(got, e) {
		t.Fatalf("%.50v: %.200v, %d, not %.200v", b, got, code, e)
	}
}

// holdBytes holds what bytes are unpacked as against the chapter's words; true: they are an entry's.
func holdBytes(t *testing.T, b []byte) bool {
	t.Helper()
	got, code := Unpack(b)
	want, ok := plainUnpack(b)
	wantCode := api.ErrForm
	if ok {
		wantCode = api.OK
	}
	if code != wantCode || !same(got, want) {
		t.Fatalf("%.50v (%d bytes): %.200v, %d, not %.200v, %d", b, len(b), got, code, want, wantCode)
	}
	return ok
}

func TestBounds(t *testing.T) { // P21.1, P21.2
	for i, e := range boundEntries() {
		if !Right(e) {
			t.Errorf("%d, %.200v, isn't right", i, e)
		}
		holdEntry(t, e)
	}
	for i, e := range wrongEntries() {
		if Right(e) {
			t.Errorf("%d, %.200v, is right", i, e)
		}
		holdEntry(t, e)
		if len(e.Results) > len(e.Traces) {
			continue
		}
		// Bytes that mean it are nobody's.
		if e.Group >= 0 && !slices.ContainsFunc(slices.Concat(e.Traces...), func(x api.Event) bool { return x.Kind < 0 || x.N < -1 || x.N == math.MaxInt || x.At < 0 }) && len(e.Results) == len(e.Traces) {
			if got, code := Unpack(plainBytes(e)); code != api.ErrForm || !same(got, api.Entry{}) {
				t.Errorf("%d, %.200v: %.200v, %d", i, e, got, code)
			}
		}
	}
}

func TestAnyEntries(t *testing.T) { // P21.1, P21.2
	r := rand.New(rand.NewSource(4))
	right := 0
	for range 50000 {
		e := someEntry(r, r.Intn(2) == 0)
		holdEntry(t, e)
		if Right(e) {
			right++
		}
	}
	if right < 20000 || right > 48000 {
		t.Errorf("%d are right", right)
	}
}

// TestTurnedBytes cuts an entry's bytes off, turns them, and puts one more behind or between.
func TestTurnedBytes(t *testing.T) { // P21.1, P21.2
	r := rand.New(rand.NewSource(5))
	right := 0
	for range 300 {
		e := someEntry(r, false)
		b, _ := Pack(e)
		for end := range b {
			if holdBytes(t, b[:end]) {
				t.Fatalf("%v, a beginning of %v", b[:end], b)
			}
		}
		for _, more := range []byte{0, 1, 128, 255} {
			if holdBytes(t, append(slices.Clone(b), more)) {
				t.Fatalf("%v, and %d", b, more)
			}
		}
		for at := range b {
			for _, to := range []byte{0, 1, 2, 3, 14, 15, 127, 128, 255, b[at] + 1, b[at] - 1, b[at] ^ 128, byte(r.Intn(256))} {
				turned := slices.Clone(b)
				turned[at] = to
				if holdBytes(t, turned) {
					right++
				}
				holdBytes(t, slices.Insert(slices.Clone(b), at, to))
			}
			holdBytes(t, slices.Delete(slices.Clone(b), at, at+1))
		}
	}
	if right < 1000 {
		t.Errorf("%d are right", right)
	}
}

// TestAllShortBytes goes through all short bytes of some.
func TestAllShortBytes(t *testing.T) { // P21.1, P21.2
	some := []byte{0, 1, 2, 7, 8, 12, 15, 128}
	right := 0
	var all func(b []byte, more int)
	all = func(b []byte, more int) {
		if holdBytes(t, b) {
			right++
		}
		for _, x := range some {
			if more > 0 {
				all(append(slices.Clip(b), x), more-1)
			}
		}
	}
	all(nil, 5)
	all([]byte{1, 1, 1, 't', 1}, 5)
	all([]byte{0, 1, 1, 't', 1, 1}, 5)
	if right < 50 {
		t.Errorf("%d are right", right)
	}
}

// TestCounts: numbers that are greater than what is there, or not written as layer 8 does.
func TestCounts(t *testing.T) { // P21.1, DOC P1
	for _, n := range []int64{2, 3, 127, 128, 1 << 20, 1 << 31, 1 << 32, 1<<40 + 2, 1 << 61, 1 << 62} {
		x := plainNum(n)
		for _, b := range [][]byte{
			slices.Concat([]byte{0}, x), slices.Concat([]byte{0}, x, []byte{1, 't', 1, 0}), slices.Concat(x), slices.Concat([]byte{0, 1}, x), slices.Concat([]byte{0, 1}, x, []byte{'t', 1, 0}), slices.Concat([]byte{0, 1, 1, 't', 1}, x),
			slices.Concat([]byte{0, 1, 1, 't', 1}, x, []byte{14, 1, 0, 0}), slices.Concat([]byte{0, 1, 1, 't', 1, 1, 2, 1, 0}, x), slices.Concat([]byte{0, 1, 1, 't', 1, 1, 2, 1, 0}, x, []byte("ab")[:1]), slices.Concat([]byte{0, 1, 1, 't'}, plainNum(n+6), []byte{0}), slices.Concat([]byte{0, 1, 1, 't', 1, 1}, plainNum(n+13), []byte{1, 0, 0}),
			slices.Concat([]byte{0, 1, 1, 't', 1, 1, 2}, x, []byte{0, 0}), slices.Concat(plainNum(n+1<<20), []byte{0}), slices.Concat([]byte{0, 1, 1, 't', 1, 1, 14}, plainNum(n+1<<40), []byte{0, 0}), slices.Concat([]byte{0, 1, 1, 't', 1, 1, 14, 1}, plainNum(min(n+1<<50, 1<<62)), []byte{0}),
		} {
			if e, code := Unpack(b); code != api.ErrForm || !same(e, api.Entry{}) {
				t.Errorf("%v: %v, %d", b, e, code)
			}
		}
	}
	for _, b := range [][]byte{nil, {}, {0}, {128, 0, 0}, {0, 128, 0}, {0, 1, 129, 0, 't', 1, 0}, {0, 1, 1, 't', 129, 0, 0}, {0, 1, 1, 't', 1, 128, 0}, {0, 1, 1, 't', 1, 1, 140, 0, 1, 0, 0}, bytes.Repeat([]byte{255}, 20), bytes.Repeat([]byte{128}, 20), append(bytes.Repeat([]byte{255}, 9), 1), make([]byte, 3), make([]byte, 1000)} {
		if e, code := Unpack(b); code != api.ErrForm || !same(e, api.Entry{}) {
			t.Errorf("%v: %v, %d", b, e, code)
		}
	}
	if e, code := Unpack([]byte{0, 0}); code != api.OK || !same(e, api.Entry{}) {
		t.Errorf("%v, %d", e, code)
	}
}

// TestMany: an entry of as much as a group's fuel lets happen, and more.
func TestMany(t *testing.T) { // DOC P1
	e := api.Entry{Group: 3}
	for i := range 60 {
		e.Results = append(e.Results, api.Result{Name: "t", Verdict: 5})
		var es []api.Event
		for j := range 10000 {
			es = append(es, api.Event{Kind: api.Matched, N: i, Text: "text", At: int64(j)})
		}
		e.Traces = append(e.Traces, es)
	}
	holdEntry(t, e)
	log := Log("s", "b", []string{"", "", "", "g"}, []api.Entry{e, e})
	if strings.Count(log, "\n") != 3+2*(1+60*10001) || log != plainLog("s", "b", []string{"", "", "", "g"}, []api.Entry{e, e}) {
		t.Errorf("a log of %d bytes", len(log))
	}
	many := api.Entry{Results: slices.Repeat([]api.Result{{Name: "t", Verdict: 1}}, 200000), Traces: make([][]api.Event, 200000)}
	holdEntry(t, many)
}
