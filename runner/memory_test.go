package runner

import (
	"fmt"
	"math/rand"
	"reflect"
	"slices"
	"testing"

	"colloquy/api"
)

// roomy is a list with some more behind its length.
func roomy[T any](list []T, behind T) []T {
	return append(slices.Clone(list), behind, behind)[:len(list)]
}

func roomySteps(ss []api.Step) []api.Step {
	ss = roomy(ss, api.Step{Kind: 77})
	for i := range ss {
		ss[i].Steps = roomySteps(ss[i].Steps)
		ss[i].Clauses = roomy(ss[i].Clauses, api.Clause{Kind: 77})
		for j := range ss[i].Clauses {
			ss[i].Clauses[j].Steps = roomySteps(ss[i].Clauses[j].Steps)
		}
	}
	return ss
}

func roomyConds(cs []api.Cond) []api.Cond {
	cs = roomy(cs, api.Cond{Kind: 77})
	for i := range cs {
		cs[i].Kids = roomyConds(cs[i].Kids)
	}
	return cs
}

func roomyGroup(g api.Group) api.Group {
	g.Tests = roomy(g.Tests, api.Test{Kind: 77})
	for i := range g.Tests {
		g.Tests[i].Steps = roomySteps(g.Tests[i].Steps)
		g.Tests[i].Xfail = roomyConds(g.Tests[i].Xfail)
	}
	return g
}

func roomyStreams(ss []api.Stream) []api.Stream {
	ss = roomy(ss, api.Stream{End: 77})
	for i := range ss {
		ss[i].Chunks = roomy(ss[i].Chunks, api.Chunk{Wait: 77})
		for j := range ss[i].Chunks {
			ss[i].Chunks[j].B = roomy(ss[i].Chunks[j].B, '#')
		}
	}
	return ss
}

// whole is all that a value's lists have, behind their lengths too, as text.
func whole(v reflect.Value) string {
	switch v.Kind() {
	case reflect.Slice:
		v = v.Slice(0, v.Cap())
		out := fmt.Sprint("[", v.Cap())
		for i := range v.Len() {
			out += " " + whole(v.Index(i))
		}
		return out + "]"
	case reflect.Struct:
		out := "{"
		for i := range v.NumField() {
			out += " " + whole(v.Field(i))
		}
		return out + "}"
	}
	return fmt.Sprintf("%#v", v)
}

func wholeArgs(g api.Group, b api.Board, ss []api.Stream) string {
	return whole(reflect.ValueOf(g)) + whole(reflect.ValueOf(b)) + whole(reflect.ValueOf(ss))
}

func TestArgumentsStay(t *testing.T) { // P19.4
	m := &maker{r: rand.New(rand.NewSource(5))}
	b := api.Board{Name: "b", Props: roomy(someBoard.Props, api.Prop{Name: "#"})}
	for range 500 {
		g, ss := roomyGroup(m.group()), roomyStreams(m.streams())
		ahead := wholeArgs(g, b, ss)
		Run(0, g, b, ss, Conf{Buffer: m.r.Intn(9), Fuel: 500})
		if behind := wholeArgs(g, b, ss); behind != ahead {
			t.Fatalf("%s\nis now\n%s", ahead, behind)
		}
	}
}

// wipe writes over all that a group and streams have.
func wipe(g api.Group, ss []api.Stream) {
	for i := range g.Tests {
		wipeSteps(g.Tests[i].Steps)
		clear(g.Tests[i].Xfail)
	}
	clear(g.Tests)
	for i := range ss {
		for _, c := range ss[i].Chunks {
			for k := range c.B[:cap(c.B)] {
				c.B[:cap(c.B)][k] = '!'
			}
		}
		clear(ss[i].Chunks)
	}
	clear(ss)
}

func wipeSteps(steps []api.Step) {
	for i := range steps {
		wipeSteps(steps[i].Steps)
		for j := range steps[i].Clauses {
			wipeSteps(steps[i].Clauses[j].Steps)
		}
		clear(steps[i].Clauses)
	}
	clear(steps)
}

func TestNothingIsKept(t *testing.T) { // P19.4: arguments may be written over behind the call
	m := &maker{r: rand.New(rand.NewSource(6))}
	for i := range 500 {
		g, ss, c := m.group(), m.streams(), Conf{Buffer: m.r.Intn(9), Fuel: 500}
		want := Run(i, roomyGroup(g), someBoard, roomyStreams(ss), c)
		g2, ss2 := roomyGroup(g), roomyStreams(ss)
		got := Run(i, g2, someBoard, ss2, c)
		wipe(g2, ss2)
		if !sameReport(got, want) {
			t.Fatalf("%+v, and once the arguments are written over %+v", want, got)
		}
	}
}

// TestAnswersAreNew: a list of an answer is written over, with its spare room, and no other one changes.
func TestAnswersAreNew(t *testing.T) { // P19.4
	m := &maker{r: rand.New(rand.NewSource(7))}
	for i := range 500 {
		g, ss, c := roomyGroup(m.group()), roomyStreams(m.streams()), Conf{Buffer: m.r.Intn(9), Fuel: 500}
		want, got, other := Run(i, g, someBoard, ss, c), Run(i, g, someBoard, ss, c), Run(i, g, someBoard, ss, c)
		args := wholeArgs(g, someBoard, ss)
		for j := range got.Entry.Traces {
			es := got.Entry.Traces[j]
			es = es[:cap(es)]
			for k := range es {
				es[k] = api.Event{Kind: 77, Text: "#"}
			}
			got.Entry.Traces[j] = nil
			for k := j + 1; k < len(got.Entry.Traces); k++ {
				if !sameList(got.Entry.Traces[k], want.Entry.Traces[k]) {
					t.Fatalf("the traces %d and %d share memory", j, k)
				}
			}
		}
		all := got.Entry.Traces[:cap(got.Entry.Traces)]
		for k := range all {
			all[k] = []api.Event{{Kind: 77}}
		}
		if !sameList(got.Entry.Results, want.Entry.Results) {
			t.Fatalf("%v, and once the traces are written over %v", want.Entry.Results, got.Entry.Results)
		}
		rs := got.Entry.Results[:cap(got.Entry.Results)]
		for k := range rs {
			rs[k] = api.Result{Name: "#", Verdict: 77}
		}
		if !sameReport(other, want) || wholeArgs(g, someBoard, ss) != args {
			t.Fatalf("an answer shares memory with another one, or with the arguments")
		}
	}
}
