package grid

import (
	"iter"
	"slices"

	"darkroom/api"
	"darkroom/sizes"
)

// Rows gives each row's number and a copy of its cells.
func (g *Grid[T]) Rows() iter.Seq2[int, []T] {
	return func(yield func(int, []T) bool) {
		for y := range g.H() {
			if !yield(y, slices.Clone(g.run(0, y, g.w))) {
				return
			}
		}
	}
}

// All gives each place and its cell, row by row.
func (g *Grid[T]) All() iter.Seq2[api.Point, T] {
	return func(yield func(api.Point, T) bool) {
		for y := range g.H() {
			for x := range g.w {
				// Each cell is read when it comes, not a row at once: the cell
				// ahead may have had it set.
				if !yield(api.Point{X: x, Y: y}, g.run(x, y, 1)[0]) {
					return
				}
			}
		}
	}
}

// Tiles gives the rectangles, tw wide and th high at most, that cut a grid of
// this size: from the left to the right, and from the top down.
func Tiles(w, h, tw, th int) iter.Seq[api.Rect] {
	return func(yield func(api.Rect) bool) {
		if !sizes.MayBe(w, h) || tw < 1 || th < 1 {
			return
		}
		// A second step is taken by tiles smaller than the grid alone, so that no
		// place wraps round, however great they are.
		for y := 0; y < h; y += th {
			for x := 0; x < w; x += tw {
				if !yield(api.Rect{X: x, Y: y, W: min(tw, w-x), H: min(th, h-y)}) {
					return
				}
			}
		}
	}
}
