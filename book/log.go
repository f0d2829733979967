package book

import (
	"strings"

	"colloquy/api"
	"colloquy/name"
	"colloquy/trace"
)

// Log is the log of entries, each of one of the groups; the empty text, if something isn't right.
func Log(suite, board string, groups []string, es []api.Entry) string {
	if !name.Right(suite) || !name.Right(board) {
		return ""
	}
	lines := []string{"Log of " + name.Write(suite), "Board " + name.Write(board)}
	for _, e := range es {
		if !Right(e) || e.Group >= len(groups) || !name.Right(groups[e.Group]) {
			return ""
		}
		lines = append(lines, "group "+name.Write(groups[e.Group]))
		for i, r := range e.Results {
			lines = append(lines, "test "+name.Write(r.Name)+": "+trace.Text(r.Verdict))
			for _, event := range e.Traces[i] {
				lines = append(lines, "  "+Line(event))
			}
		}
	}
	lines = append(lines, "end")
	return strings.Join(lines, "\n") + "\n"
}
