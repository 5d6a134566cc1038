package grid_test

import (
	"slices"
	"testing"

	"darkroom/api"
	"darkroom/grid"
)

// A spot is a cell of several fields.
type spot struct {
	name string
	at   api.Point
}

// count answers n numbers, from first on.
func count(first, n int) []int {
	list := make([]int, n)
	for i := range list {
		list[i] = first + i
	}
	return list
}

// made answers a grid that may be.
func made[T any](t *testing.T, w, h int, cells []T) *grid.Grid[T] {
	t.Helper()
	g, e := grid.Of(w, h, cells)
	if g == nil || e != api.OK {
		t.Fatalf("Of(%d, %d, %d cells) = %v, %d", w, h, len(cells), g, e)
	}
	return g
}

// counted answers a grid of the numbers from first on.
func counted(t *testing.T, w, h, first int) *grid.Grid[int] {
	t.Helper()
	return made(t, w, h, count(first, w*h))
}

// wantGrid looks at a grid in all ways that there are.
func wantGrid[T comparable](t *testing.T, g *grid.Grid[T], w, h int, cells []T) {
	t.Helper()
	if g == nil || g.W() != w || g.H() != h {
		t.Fatalf("W, H = %d, %d; want %d, %d", g.W(), g.H(), w, h)
	}
	if c := g.Cells(); !slices.Equal(c, cells) {
		t.Fatalf("Cells = %v; want %v", head(c), head(cells))
	}
	for i, want := range cells {
		if v, ok := g.At(i%w, i/w); v != want || !ok {
			t.Fatalf("At(%d, %d) = %v, %v; want %v", i%w, i/w, v, ok, want)
		}
	}
	n := 0
	for y, row := range g.Rows() {
		if y != n || n >= h || !slices.Equal(row, cells[y*w:(y+1)*w]) {
			t.Fatalf("row %d, called %d: %v", n, y, head(row))
		}
		n++
	}
	if n != h {
		t.Fatalf("%d rows of %d", n, h)
	}
	i := 0
	for p, v := range g.All() {
		if i >= w*h || p != (api.Point{X: i % w, Y: i / w}) || v != cells[i] {
			t.Fatalf("cell %d: %v, %v", i, p, v)
		}
		i++
	}
	if i != w*h {
		t.Fatalf("%d cells of %d", i, w*h)
	}
}

// head answers what is to be told of a list: not all of a long one.
func head[T any](list []T) []T { return list[:min(len(list), 50)] }
