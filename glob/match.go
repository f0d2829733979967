package glob

import "colloquy/api"

// matches tells whether a whole text is what a pattern's pieces are.
//
// Where it fails, only the last star that was met takes one byte more: the pieces ahead of that star end as early as they can, and where they end later it has only fewer bytes to choose from.
func matches(kids []api.Node, text string) bool {
	kid, at := 0, 0
	behind, from := -1, 0 // the piece behind the last star, and where that was tried
	for at < len(text) {
		switch {
		case kid < len(kids) && kids[kid].Kind == api.Star:
			kid++
			behind, from = kid, at
		case kid < len(kids) && holds(kids[kid].Ranges, text[at]):
			kid++
			at++
		case behind >= 0:
			from++
			kid, at = behind, from
		default:
			return false
		}
	}
	return onlyStars(kids[kid:])
}

func onlyStars(kids []api.Node) bool {
	for _, kid := range kids {
		if kid.Kind != api.Star {
			return false
		}
	}
	return true
}

func holds(rs []api.Range, b byte) bool {
	for _, r := range rs {
		if r.Lo <= b && b <= r.Hi {
			return true
		}
	}
	return false
}
