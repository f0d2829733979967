package sum

import (
	"math/rand"
	"slices"
	"testing"

	"colloquy/api"
)

// roomy is a sum with some more behind each list's length.
func roomy(s Sum) Sum {
	s.Parts = append(slices.Clone(s.Parts), Part{Group: "#"}, Part{Group: "#"})[:len(s.Parts)]
	for i, p := range s.Parts {
		s.Parts[i].Results = append(slices.Clone(p.Results), api.Result{Name: "#", Verdict: 77})[:len(p.Results)]
	}
	return s
}

// wide is a sum with all that is behind its lists' lengths.
func wide(s Sum) Sum {
	s.Parts = slices.Clone(s.Parts[:cap(s.Parts)])
	for i, p := range s.Parts {
		s.Parts[i].Results = slices.Clone(p.Results[:cap(p.Results)])
	}
	return s
}

func TestArgumentsStay(t *testing.T) { // P20.4
	r := rand.New(rand.NewSource(4))
	for range 5000 {
		s := roomy(someSum(r))
		ahead := wide(s)
		Right(s)
		Text(s)
		Totals(s)
		if !same(wide(s), ahead) {
			t.Fatalf("%v is now %v", ahead, wide(s))
		}
	}
}

// overwrite writes over a sum's lists, with what is behind their lengths.
func overwrite(s Sum) {
	for i := range s.Parts[:cap(s.Parts)] {
		p := &s.Parts[:cap(s.Parts)][i]
		for j := range p.Results[:cap(p.Results)] {
			p.Results[:cap(p.Results)][j] = api.Result{Name: "#", Verdict: 77}
		}
		*p = Part{Group: "#"}
	}
}

// TestAnswersAreNew writes over each list of an answer, with its spare room: neither another answer nor another list of it changes.
func TestAnswersAreNew(t *testing.T) { // P20.4
	r := rand.New(rand.NewSource(5))
	for range 5000 {
		s := someSum(r)
		if !Right(s) {
			continue
		}
		text := Text(s)
		got, _, _ := Parse(text)
		other, _, _ := Parse(text)
		for i := range got.Parts {
			all := got.Parts[i].Results
			all = all[:cap(all)]
			for j := range all {
				all[j] = api.Result{Name: "#"}
			}
			got.Parts[i] = s.Parts[i]
			if !same(got, s) {
				t.Fatalf("%v: what part %d has is another's too", s, i)
			}
		}
		got.Parts = slices.Clone(other.Parts)
		overwrite(got)
		again, code, _ := Parse(text)
		if code != api.OK || !same(again, s) {
			t.Fatalf("%q is now parsed as %v", text, again)
		}
	}
}

// TestNothingIsKept writes over a sum whose text was made.
func TestNothingIsKept(t *testing.T) { // P20.4
	r := rand.New(rand.NewSource(6))
	for range 5000 {
		s := roomy(someSum(r))
		want := plainText(s)
		text := Text(s)
		overwrite(s)
		if text != want {
			t.Fatalf("%q is now %q", want, text)
		}
	}
}
