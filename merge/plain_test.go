package merge

import (
	"fmt"
	"slices"
	"strings"

	"colloquy/api"
	"colloquy/book"
	"colloquy/name"
	"colloquy/sum"
)

// told is all that an entry has, as a text; it knows no nil lists.
func told(e api.Entry) string {
	var out strings.Builder
	fmt.Fprintf(&out, "group %d, %d results", e.Group, len(e.Results))
	for _, r := range e.Results {
		fmt.Fprintf(&out, ", %q %d", r.Name, r.Verdict)
	}
	fmt.Fprintf(&out, ", %d traces", len(e.Traces))
	for _, es := range e.Traces {
		fmt.Fprintf(&out, ", %d events", len(es))
		for _, x := range es {
			fmt.Fprintf(&out, ", %d %d %q %d", x.Kind, x.N, x.Text, x.At)
		}
	}
	return out.String()
}

// toldAll is all that entries have.
func toldAll(es []api.Entry) string {
	var out []string
	for _, e := range es {
		out = append(out, told(e))
	}
	return strings.Join(out, "\n")
}

// plainMerge is the chapter's words, one behind the other; n is small.
func plainMerge(n int, parts [][]api.Entry) (string, api.Errno) {
	all := slices.Concat(parts...)
	for _, a := range all {
		if a.Group < 0 || a.Group >= n {
			return "", api.ErrGroup
		}
		for _, b := range all {
			if a.Group == b.Group && told(a) != told(b) {
				return "", api.ErrGroup
			}
		}
	}
	var es []api.Entry
	for g := 0; g < n; g++ {
		i := slices.IndexFunc(all, func(e api.Entry) bool { return e.Group == g })
		if i < 0 {
			return "", api.ErrNone
		}
		es = append(es, all[i])
	}
	return toldAll(es), api.OK
}

// plainPublish is the chapter's words; the texts are those that layers 20 and 21 tell.
func plainPublish(s api.Suite, board string, es []api.Entry) (string, string, api.Errno) {
	for _, e := range es {
		if e.Group < 0 || e.Group > len(s.Groups)-1 {
			return "", "", api.ErrGroup
		}
	}
	right := name.Right(s.Name) && name.Right(board)
	all := sum.Sum{Suite: s.Name, Board: board}
	for _, e := range es {
		g := s.Groups[e.Group]
		right = right && book.Right(e) && name.Right(g.Name) && len(e.Results) == len(g.Tests)
		for i := range min(len(e.Results), len(g.Tests)) {
			right = right && e.Results[i].Name == g.Tests[i].Name
		}
		all.Parts = append(all.Parts, sum.Part{Group: g.Name, Results: e.Results})
	}
	if !right {
		return "", "", api.ErrArg
	}
	var names []string
	for _, g := range s.Groups {
		names = append(names, g.Name)
	}
	return sum.Text(all), book.Log(s.Name, board, names, es), api.OK
}
