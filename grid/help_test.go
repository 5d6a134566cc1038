package grid_test

import (
	"math"
	"slices"
	"testing"

	"darkroom/api"
	"darkroom/grid"
)

// A size is a width and a height.
type size struct{ w, h int }

// A spot is a cell of several fields.
type spot struct {
	name string
	at   api.Point
}

// sizes are those that a grid may have, the greatest ones among them.
func sizes() []size {
	return []size{
		{1, 1}, {2, 1}, {1, 2}, {3, 2}, {2, 3}, {5, 3}, {7, 7},
		{api.MaxSide, 1}, {1, api.MaxSide}, {api.MaxSide - 1, 2},
		{api.MaxSide, 16}, {16, api.MaxSide}, {256, 256}, {257, 255}, {api.MaxSide, 15},
	}
}

// wrongSizes are those that no grid has. The products of some of them wrap round
// to what a grid might have.
func wrongSizes() []size {
	return []size{
		{0, 0}, {0, 1}, {1, 0}, {0, 5}, {5, 0}, {0, api.MaxSide},
		{-1, 1}, {1, -1}, {-1, -1}, {-2, -3}, {-256, -256}, {-1, 0},
		{api.MaxSide + 1, 1}, {1, api.MaxSide + 1}, {api.MaxPixels, 1}, {1, api.MaxPixels},
		{api.MaxSide, 17}, {17, api.MaxSide}, {257, 256}, {256, 257}, {api.MaxSide, api.MaxSide},
		{api.MaxSide + 1, 16}, {16, api.MaxSide + 1}, {api.MaxSide + 1, 0}, {0, api.MaxSide + 1},
		{1 << 32, 1 << 32}, {1<<32 + 1, 1}, {1, 1<<32 + 1}, {1 << 62, 4}, {4, 1 << 62},
		{math.MaxInt, 1}, {1, math.MaxInt}, {math.MaxInt, math.MaxInt}, {math.MaxInt, 2},
		{math.MinInt, 1}, {1, math.MinInt}, {math.MinInt, math.MinInt}, {math.MinInt, math.MaxInt},
	}
}

// far are places and lengths far from all grids.
func far() []int {
	return []int{
		math.MinInt, math.MinInt + 1, math.MinInt + 4, math.MinInt / 2, math.MinInt / 4, -1 << 32, -1 << 31, -api.MaxPixels,
		api.MaxPixels, 1 << 31, 1 << 32, 1<<32 + 1, 1 << 61, 1 << 62, 1<<62 + 1, math.MaxInt - 4, math.MaxInt - 1, math.MaxInt,
	}
}

// count answers n numbers, from first on.
func count(first, n int) []int {
	list := make([]int, n)
	for i := range list {
		list[i] = first + i
	}
	return list
}

// made answers a grid that may be.
func made[T any](t *testing.T, w, h int, cells []T) *grid.Grid[T] {
	t.Helper()
	g, e := grid.Of(w, h, cells)
	if g == nil || e != api.OK {
		t.Fatalf("Of(%d, %d, %d cells) = %v, %d", w, h, len(cells), g, e)
	}
	return g
}

// counted answers a grid of the numbers from first on.
func counted(t *testing.T, w, h, first int) *grid.Grid[int] {
	t.Helper()
	return made(t, w, h, count(first, w*h))
}

// wantGrid looks at a grid in all ways that there are.
func wantGrid[T comparable](t *testing.T, g *grid.Grid[T], w, h int, cells []T) {
	t.Helper()
	if g == nil || g.W() != w || g.H() != h {
		t.Fatalf("W, H = %d, %d; want %d, %d", g.W(), g.H(), w, h)
	}
	if c := g.Cells(); !slices.Equal(c, cells) {
		t.Fatalf("Cells = %v; want %v", head(c), head(cells))
	}
	for i, want := range cells {
		if v, ok := g.At(i%w, i/w); v != want || !ok {
			t.Fatalf("At(%d, %d) = %v, %v; want %v", i%w, i/w, v, ok, want)
		}
	}
	n := 0
	for y, row := range g.Rows() {
		if y != n || n >= h || !slices.Equal(row, cells[y*w:(y+1)*w]) {
			t.Fatalf("row %d, called %d: %v", n, y, head(row))
		}
		n++
	}
	if n != h {
		t.Fatalf("%d rows of %d", n, h)
	}
	i := 0
	for p, v := range g.All() {
		if i >= w*h || p != (api.Point{X: i % w, Y: i / w}) || v != cells[i] {
			t.Fatalf("cell %d: %v, %v", i, p, v)
		}
		i++
	}
	if i != w*h {
		t.Fatalf("%d cells of %d", i, w*h)
	}
}

// head answers what is to be told of a list: not all of a long one.
func head[T any](list []T) []T { return list[:min(len(list), 50)] }
