package merge

import (
	"slices"

	"colloquy/api"
	"colloquy/book"
	"colloquy/sum"
)

// Publish is the .sum and the .log of entries, in their order. api.ErrGroup: the suite hasn't the group of one; api.ErrArg: the texts can't be made, or an entry's results aren't those of its group's tests.
func Publish(s api.Suite, board string, es []api.Entry) (string, string, api.Errno) {
	for _, e := range es {
		if e.Group < 0 || e.Group >= len(s.Groups) {
			return "", "", api.ErrGroup
		}
	}
	all := sum.Sum{Suite: s.Name, Board: board}
	for _, e := range es {
		g := s.Groups[e.Group]
		if !ofTests(e.Results, g.Tests) {
			return "", "", api.ErrArg
		}
		all.Parts = append(all.Parts, sum.Part{Group: g.Name, Results: e.Results})
	}
	// Layers 20 and 21 have no text of what isn't right; an entry's trace is looked at by the log alone.
	text, log := sum.Text(all), book.Log(s.Name, board, groupNames(s), es)
	if text == "" || log == "" {
		return "", "", api.ErrArg
	}
	return text, log, api.OK
}

// ofTests tells whether results are as many as the tests, with their names in order.
func ofTests(rs []api.Result, tests []api.Test) bool {
	return slices.EqualFunc(rs, tests, func(r api.Result, t api.Test) bool { return r.Name == t.Name })
}

func groupNames(s api.Suite) []string {
	var names []string
	for _, g := range s.Groups {
		names = append(names, g.Name)
	}
	return names
}
