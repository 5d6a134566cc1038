package chunk

import (
	"darkroom/api"
)

// Passes answers the passes of a picture of that size, those without a pixel left
// out.
func Passes(w, h int) []api.Pass {
	rest := []api.Pass{
		{X: 0, Y: 0, DX: 8, DY: 8}, {X: 4, Y: 0, DX: 8, DY: 8}, {X: 0, Y: 4, DX: 4, DY: 8},
		{X: 2, Y: 0, DX: 4, DY: 4}, {X: 0, Y: 2, DX: 2, DY: 4}, {X: 1, Y: 0, DX: 2, DY: 2}, {X: 0, Y: 1, DX: 1, DY: 2},
	}
	var list []api.Pass
next:
	p := rest[0]
	p.W, p.H = steps(p.X, p.DX, w), steps(p.Y, p.DY, h)
	if p.W > 0 && p.H > 0 {
		list = append(list, p)
	}
	rest = rest[1:]
	if len(rest) > 0 {
		goto next
	}
	return list
}

// steps answers how many places below end there are, from one on in steps.
func steps(from, step, end int) int {
	if end <= from {
		return 0
	}
	// end - from can't wrap round, end + step might.
	return (end-from-1)/step + 1
}
