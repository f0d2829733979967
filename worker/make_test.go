package worker

import (
	"bytes"
	"math"
	"math/rand"
	"slices"
	"strings"
	"testing"

	"colloquy/api"
	"colloquy/journal"
	"colloquy/vfs"
)

const file = "j"

func is(t *testing.T, what string, got, want api.Errno) {
	t.Helper()
	if got != want {
		t.Fatalf("%s = %d, not %d", what, got, want)
	}
}

func opened(t *testing.T, d *vfs.FS) *journal.Journal {
	t.Helper()
	return openedAs(t, d, file)
}

func openedAs(t *testing.T, d *vfs.FS, name string) *journal.Journal {
	t.Helper()
	j, code := journal.Open(d, name)
	is(t, "Open", code, api.OK)
	return j
}

// fileOf are the bytes of a disk's journal.
func fileOf(t *testing.T, d *vfs.FS) []byte {
	t.Helper()
	b, code := d.Read(file)
	is(t, "Read", code, api.OK)
	return b
}

// entry is an entry of a group, with some tests; how many hangs on the group.
func entry(group int) api.Entry {
	e := api.Entry{Group: group}
	for i := range (group%5 + 5) % 5 {
		e.Results = append(e.Results, api.Result{Name: strings.Repeat("t", i+1), Verdict: 1 + i})
		e.Traces = append(e.Traces, []api.Event{{Kind: api.Spawned}, {Kind: api.Matched, N: i, Text: "ok", At: 2}, {Kind: api.Passed, At: 2}}[:i%4])
	}
	return e
}

// someEntry is a right entry of a group.
func someEntry(r *rand.Rand, group int) api.Entry {
	e := api.Entry{Group: group}
	for range r.Intn(4) {
		e.Results = append(e.Results, api.Result{Name: []string{"t", "a b", "\n", "\xff"}[r.Intn(4)], Verdict: 1 + r.Intn(7)})
		var es []api.Event
		for at := range r.Intn(4) {
			es = append(es, api.Event{Kind: api.Matched, N: r.Intn(3), Text: []string{"", "a\x00", strings.Repeat("x", 200)}[r.Intn(3)], At: int64(at * at)})
		}
		e.Traces = append(e.Traces, es)
	}
	return e
}

// right is what entry answers, for a plainWorker.
func right(group int) ([]byte, bool) {
	return plainEntry(entry(group)), group >= 0 && group <= 1<<20
}

// witness notes for which groups it is asked.
type witness struct {
	asked  []int
	answer func(group int) api.Entry
}

func (r *witness) run(group int) api.Entry {
	r.asked = append(r.asked, group)
	return r.answer(group)
}

// wrongEntries are entries of a group that layer 21 doesn't take, in one thing each, or that are of other groups.
func wrongEntries(group int) []api.Entry {
	var all []api.Entry
	turn := func(change func(e *api.Entry)) {
		e := api.Entry{Group: group, Results: []api.Result{{Name: "t", Verdict: 1}, {Name: "u", Verdict: 2}}}
		e.Traces = [][]api.Event{{{Kind: api.Spawned}, {Kind: api.Sent, Text: "a", At: 2}, {Kind: api.Waited, N: 1, At: 3}}, nil}
		change(&e)
		all = append(all, e)
	}
	for _, other := range []int{group + 1, group - 1, group + 1<<32, -group - 1, 1 << 20, 1<<20 + 1, math.MaxInt, math.MinInt} {
		turn(func(e *api.Entry) { e.Group = other })
	}
	all = append(all, api.Entry{Group: group + 1}, entry(group+1))
	turn(func(e *api.Entry) { e.Results = e.Results[:1] })
	turn(func(e *api.Entry) { e.Results = nil })
	turn(func(e *api.Entry) { e.Results = append(e.Results, e.Results[0]) })
	turn(func(e *api.Entry) { e.Traces = e.Traces[:1] })
	turn(func(e *api.Entry) { e.Traces = nil })
	turn(func(e *api.Entry) { e.Traces = append(e.Traces, nil) })
	turn(func(e *api.Entry) { e.Results[1].Name = "" })
	turn(func(e *api.Entry) { e.Results[0].Name = strings.Repeat("n", 81) })
	for _, verdict := range []int{0, 8, -1, 1<<32 + 1} {
		turn(func(e *api.Entry) { e.Results[0].Verdict = verdict })
	}
	for _, event := range []api.Event{
		{}, {Kind: 15, At: 3}, {Kind: -1, At: 3}, {Kind: api.Waited, At: 1}, {Kind: api.Waited, At: -1}, {Kind: api.Waited, N: -1, At: 3}, {Kind: api.Passed, N: 1, At: 3}, {Kind: api.Passed, Text: "a", At: 3},
		{Kind: api.Spawned, At: 3}, {Kind: api.Waited, N: 1<<40 + 1, At: 3}, {Kind: api.Waited, At: 1<<50 + 1}, {Kind: api.Sent, Text: strings.Repeat("x", 1<<20+1), At: 3},
	} {
		turn(func(e *api.Entry) { e.Traces[0][2] = event })
		turn(func(e *api.Entry) { e.Traces[0] = append(e.Traces[0], event) })
	}
	turn(func(e *api.Entry) { e.Traces[0][0] = api.Event{Kind: api.Passed} })
	turn(func(e *api.Entry) { e.Traces[0][1] = api.Event{Kind: api.TimedOut, N: -1, At: 2} })
	turn(func(e *api.Entry) { slices.Reverse(e.Traces[0]) })
	return all
}

// hold holds all that a worker tells, and its journal, against the plain worker.
func hold(t *testing.T, w *Worker, r *witness, d *vfs.FS, j *journal.Journal, plain *plainWorker) {
	t.Helper()
	left := len(plain.groups) - len(plain.done)
	if !slices.Equal(w.Ran(), plain.ran) || !slices.Equal(w.Done(), plain.done) || w.Left() != left || w.Finished() != plain.finished() {
		t.Fatalf("groups %v: Ran %v, Done %v, Left %d, Finished %v; not %v, %v, %d, %v", plain.groups, w.Ran(), w.Done(), w.Left(), w.Finished(), plain.ran, plain.done, left, plain.finished())
	}
	if !slices.Equal(r.asked, plain.ran) {
		t.Fatalf("run is asked for %v, not %v", r.asked, plain.ran)
	}
	holdJournal(t, j, plain.disk.there)
	if b, code := d.Read(file); !plain.disk.off && !plain.disk.gone && (code != api.OK || !bytes.Equal(b, recordsOf(plain.disk.there))) {
		t.Fatalf("the file is %v, %d", b, code)
	}
}

// holdJournal: a journal has these records and no others.
func holdJournal(t *testing.T, j *journal.Journal, rs []record) {
	t.Helper()
	if len(j.Keys()) != len(rs) {
		t.Fatalf("the journal has %v, not %d records", j.Keys(), len(rs))
	}
	for _, r := range rs {
		if data, there := j.Get(int64(r.group)); !there || !bytes.Equal(data, r.data) {
			t.Fatalf("group %d: %v, %v, not %v", r.group, data, there, r.data)
		}
	}
}
