package words

import (
	"math"
	"strings"
	"testing"

	"colloquy/api"
)

func TestKinds(t *testing.T) {
	for i, x := range []struct {
		of    func(int) string
		words string
	}{
		{Step, "send expect loop near pass fail wait"}, {Clause, "exact glob regex late eof death full"}, {Test, "untested unsupported"},
	} {
		all := strings.Fields(x.words)
		for at, word := range all {
			if got := x.of(at + 1); got != word {
				t.Errorf("%d: kind %d has the word %q, not %q", i, at+1, got, word)
			}
			if kind := Kind(word, x.of); kind != at+1 {
				t.Errorf("%d: %q is kind %d", i, word, kind)
			}
		}
		for _, kind := range []int{0, -1, len(all) + 1, 255, math.MinInt, math.MaxInt} {
			if word := x.of(kind); word != "" {
				t.Errorf("%d: kind %d has the word %q", i, kind, word)
			}
		}
		for _, word := range []string{"", "Send", "sends", "untest", "suite", "again"} {
			if kind := Kind(word, x.of); kind != 0 {
				t.Errorf("%d: %q is kind %d", i, word, kind)
			}
		}
	}
}

func TestHasText(t *testing.T) {
	for kind := -1; kind < 10; kind++ {
		if HasText(kind) != (kind == api.Exact || kind == api.Glob || kind == api.Regex) {
			t.Errorf("a clause of kind %d: %v", kind, HasText(kind))
		}
	}
}
