package probe

import (
	"math"

	"darkroom/api"
)

// A Size is a width and a height. It has no name of its own, so that other
// packages' tests may write one without its fields' names.
type Size = struct{ W, H int }

// Sizes are those that a grid or an image may have, the greatest ones among them.
func Sizes() []Size {
	return []Size{
		{1, 1}, {2, 1}, {1, 2}, {3, 2}, {2, 3}, {5, 3}, {7, 7},
		{api.MaxSide, 1}, {1, api.MaxSide}, {api.MaxSide - 1, 2},
		{api.MaxSide, 16}, {16, api.MaxSide}, {256, 256}, {257, 255}, {api.MaxSide, 15},
	}
}

// WrongSizes are those that no grid and no image has. The products of some of
// them wrap round to what one might have.
func WrongSizes() []Size {
	return []Size{
		{0, 0}, {0, 1}, {1, 0}, {0, 5}, {5, 0}, {0, api.MaxSide},
		{-1, 1}, {1, -1}, {-1, -1}, {-2, -3}, {-256, -256}, {-1, 0},
		{api.MaxSide + 1, 1}, {1, api.MaxSide + 1}, {api.MaxPixels, 1}, {1, api.MaxPixels},
		{api.MaxSide, 17}, {17, api.MaxSide}, {257, 256}, {256, 257}, {api.MaxSide, api.MaxSide},
		{api.MaxSide + 1, 16}, {16, api.MaxSide + 1}, {api.MaxSide + 1, 0}, {0, api.MaxSide + 1},
		{1 << 32, 1 << 32}, {1<<32 + 1, 1}, {1, 1<<32 + 1}, {1 << 62, 4}, {4, 1 << 62}, {1 << 62, 1}, {1, 1 << 62},
		{math.MaxInt, 1}, {1, math.MaxInt}, {math.MaxInt, math.MaxInt}, {math.MaxInt, 2},
		{math.MinInt, 1}, {1, math.MinInt}, {math.MinInt, math.MinInt}, {math.MinInt, math.MaxInt},
	}
}

// Far are places and lengths far from all grids and images.
func Far() []int {
	return []int{
		math.MinInt, math.MinInt + 1, math.MinInt + 4, math.MinInt / 2, math.MinInt / 4, -1 << 32, -1 << 31, -api.MaxPixels,
		api.MaxPixels, 1 << 31, 1 << 32, 1<<32 + 1, 1 << 61, 1 << 62, 1<<62 + 1, math.MaxInt - 4, math.MaxInt - 1, math.MaxInt,
	}
}

// Around answers places just within and just outside of a size, on each side,
// and far ones.
func Around(s Size) []api.Point {
	xs := append(Far(), -2, -1, 0, 1, s.W/2, s.W-1, s.W, s.W+1, 2*s.W, api.MaxSide, api.MaxSide+1)
	ys := append(Far(), -2, -1, 0, 1, s.H/2, s.H-1, s.H, s.H+1, 2*s.H, api.MaxSide, api.MaxSide+1)
	var all []api.Point
	for _, y := range ys {
		for _, x := range xs {
			all = append(all, api.Point{X: x, Y: y})
		}
	}
	return all
}

// Within says of a place whether it is one of that size.
func Within(s Size, p api.Point) bool {
	return p.X >= 0 && p.X < s.W && p.Y >= 0 && p.Y < s.H
}

// Lies says, place by place, whether a part of a size lies within.
func Lies(s, part Size, x, y int) bool {
	for i := range part.W {
		for k := range part.H {
			if !Within(s, api.Point{X: x + i, Y: y + k}) {
				return false
			}
		}
	}
	return true
}
