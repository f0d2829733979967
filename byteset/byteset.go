// Package byteset tells which bytes ranges hold: glob and nfa stand on it.
package byteset

import "colloquy/api"

// Size is how many bytes there are.
const Size = 256

// Of tells of each byte whether some range holds it.
func Of(rs []api.Range) [Size]bool {
	// Only where ranges begin and end is noted, so that a long list of them takes one round each.
	var change [Size + 1]int
	for _, r := range rs {
		if r.Lo <= r.Hi {
			change[r.Lo]++
			change[int(r.Hi)+1]--
		}
	}
	var held [Size]bool
	open := 0
	for b := range Size {
		open += change[b]
		held[b] = open > 0
	}
	return held
}
