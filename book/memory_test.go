package book

import (
	"bytes"
	"math/rand"
	"slices"
	"testing"

	"colloquy/api"
)

// roomy is an entry with some more behind each list's length.
func roomy(e api.Entry) api.Entry {
	e.Results = append(slices.Clone(e.Results), api.Result{Name: "#"}, api.Result{Name: "#"})[:len(e.Results)]
	e.Traces = append(slices.Clone(e.Traces), nil, nil)[:len(e.Traces)]
	for i, es := range e.Traces {
		e.Traces[i] = append(slices.Clone(es), api.Event{Kind: 77})[:len(es)]
	}
	return e
}

// wide is an entry with all that is behind its lists' lengths.
func wide(e api.Entry) api.Entry {
	e.Results = slices.Clone(e.Results[:cap(e.Results)])
	e.Traces = slices.Clone(e.Traces[:cap(e.Traces)])
	for i, es := range e.Traces {
		e.Traces[i] = slices.Clone(es[:cap(es)])
	}
	return e
}

// overwrite writes over an entry's lists, with what is behind their lengths.
func overwrite(e api.Entry) {
	for i := range e.Results[:cap(e.Results)] {
		e.Results[:cap(e.Results)][i] = api.Result{Name: "#", Verdict: 77}
	}
	all := e.Traces[:cap(e.Traces)]
	for i, es := range all {
		for j := range es[:cap(es)] {
			es[:cap(es)][j] = api.Event{Kind: 77}
		}
		all[i] = []api.Event{{Kind: 77}}
	}
}

func TestArgumentsStay(t *testing.T) { // P21.4
	r := rand.New(rand.NewSource(6))
	groups := append([]string{"g", "h", "i", "j"}, "#")[:4]
	for range 5000 {
		es := append([]api.Entry{roomy(someEntry(r, false)), roomy(someEntry(r, true))}, api.Entry{Group: 77})[:2]
		ahead, other := wide(es[0]), wide(es[1])
		Log("s", "b", groups, es)
		Log("s", "b", groups, es[:1])
		for _, e := range es {
			Right(e)
			Pack(e)
		}
		if !same(wide(es[0]), ahead) || !same(wide(es[1]), other) || es[:3][2].Group != 77 || !slices.Equal(groups[:5], []string{"g", "h", "i", "j", "#"}) {
			t.Fatalf("%v is now %v, or %v %v, or %v", ahead, es[0], other, es[1], groups)
		}
		b, _ := Pack(es[0])
		b = append(slices.Clone(b), 1, 2, 3)
		was := slices.Clone(b)
		Unpack(b[:len(b)-3])
		Unpack(b[:len(b)-2])
		if !bytes.Equal(b, was) {
			t.Fatalf("%v is now %v", was, b)
		}
	}
}

func TestNothingIsKept(t *testing.T) { // P21.4
	r := rand.New(rand.NewSource(7))
	for range 5000 {
		e := roomy(someEntry(r, false))
		was := wide(roomy(e))
		was.Results, was.Traces = was.Results[:len(e.Results)], was.Traces[:len(e.Traces)]
		for i, es := range e.Traces {
			was.Traces[i] = was.Traces[i][:len(es)]
		}
		b, _ := Pack(e)
		log := Log("s", "b", []string{"g", "h", "i", "j"}, []api.Entry{e})
		overwrite(e)
		if !bytes.Equal(b, plainBytes(was)) || log != plainLog("s", "b", []string{"g", "h", "i", "j"}, []api.Entry{was}) {
			t.Fatalf("%v: %v, %q", was, b, log)
		}
		got, _ := Unpack(b)
		for i := range b[:cap(b)] {
			b[:cap(b)][i] = '#'
		}
		if !same(got, was) {
			t.Fatalf("%v is now %v", was, got)
		}
	}
}

// TestAnswersAreNew writes over each list of an answer, with its spare room: neither another answer nor another list of it changes.
func TestAnswersAreNew(t *testing.T) { // P21.4
	r := rand.New(rand.NewSource(8))
	for range 5000 {
		e := someEntry(r, false)
		b, _ := Pack(e)
		b2, _ := Pack(e)
		got, _ := Unpack(b)
		for i, es := range got.Traces {
			for j := range es[:cap(es)] {
				es[:cap(es)][j] = api.Event{Kind: 77}
			}
			got.Traces[i] = e.Traces[i]
			if !same(got, e) {
				t.Fatalf("%v: trace %d is another's too", e, i)
			}
		}
		got, _ = Unpack(b)
		overwrite(got)
		for i := range b[:cap(b)] {
			b[:cap(b)][i] = '#'
		}
		if again, code := Unpack(b2); code != api.OK || !same(again, e) || !bytes.Equal(b2, plainBytes(e)) {
			t.Fatalf("%v is now %v, %v", e, again, b2)
		}
	}
}
