package byteset

import (
	"math/rand"
	"testing"

	"colloquy/api"
)

func TestOf(t *testing.T) {
	r := rand.New(rand.NewSource(1))
	lists := [][]api.Range{nil, {}, {{Lo: 0, Hi: 255}}, {{Lo: 255, Hi: 0}}, {{Lo: 0, Hi: 0}, {Lo: 255, Hi: 255}}, {{Lo: 9, Hi: 8}, {Lo: 8, Hi: 9}}, make([]api.Range, 1<<20)}
	for range 3000 {
		list := make([]api.Range, r.Intn(9))
		for i := range list {
			list[i] = api.Range{Lo: byte(r.Intn(256)), Hi: byte(r.Intn(256))}
		}
		lists = append(lists, list)
	}
	for _, list := range lists {
		var want [256]bool
		for _, x := range list {
			for b := int(x.Lo); b <= int(x.Hi); b++ {
				want[b] = true
			}
		}
		if got := Of(list); got != want {
			t.Errorf("Of %d ranges, %.40v: %v", len(list), list[:min(len(list), 9)], got)
		}
	}
}
