package grid_test

import (
	"bytes"
	"slices"
	"testing"

	"darkroom/api"
	"darkroom/grid"
	"darkroom/probe"
)

// A nil grid, in each of its calls.
func TestNil(t *testing.T) {
	wantNil[int](t)
	wantNil[string](t)
	wantNil[spot](t)
}

func wantNil[T comparable](t *testing.T) {
	t.Helper()
	var none *grid.Grid[T]
	var zero T
	if none.W() != 0 || none.H() != 0 || len(none.Cells()) != 0 {
		t.Error(none.W(), none.H(), none.Cells())
	}
	for _, p := range append(probe.Around(probe.Size{1, 1}), api.Point{}) {
		if v, ok := none.At(p.X, p.Y); v != zero || ok || none.Set(p.X, p.Y, zero) {
			t.Error(p, v, ok)
		}
	}
	for y, row := range none.Rows() {
		t.Error(y, row)
	}
	for p, v := range none.All() {
		t.Error(p, v)
	}
	wantNilParts(t, none)
}

// wantNilParts wants ErrNil ahead of places that may not be.
func wantNilParts[T any](t *testing.T, none *grid.Grid[T]) {
	t.Helper()
	g, _ := grid.New[T](2, 2)
	for _, n := range append(probe.Far(), -1, 0, 1, 2) {
		for _, r := range []api.Rect{{X: n, W: 1, H: 1}, {Y: n, W: 1, H: 1}, {W: n, H: 1}, {W: 1, H: n}, {X: n, Y: n, W: n, H: n}} {
			if p, e := none.Crop(r.X, r.Y, r.W, r.H); p != nil || e != api.ErrNil {
				t.Error("Crop", r, p, e)
			}
			for _, e := range []api.Errno{none.Paste(r.X, r.Y, g), g.Paste(r.X, r.Y, none), none.Paste(r.X, r.Y, none)} {
				if e != api.ErrNil {
					t.Error("Paste", r, e)
				}
			}
		}
	}
}

// A call answers bytes out of a grid of 3 by 2 of those that are handed in.
type call struct {
	name string
	do   func(g *grid.Grid[byte]) []byte
}

func calls() []call {
	return []call{
		{"Cells", (*grid.Grid[byte]).Cells},
		{"At", func(g *grid.Grid[byte]) []byte {
			v, _ := g.At(2, 1)
			w, ok := g.At(3, 1)
			return []byte{v, w, told(ok)}
		}},
		{"Rows", func(g *grid.Grid[byte]) []byte {
			var all []byte
			for y, row := range g.Rows() {
				all = append(append(all, byte(y)), row...)
			}
			return all
		}},
		{"a row", func(g *grid.Grid[byte]) []byte {
			for _, row := range g.Rows() {
				return row
			}
			return nil
		}},
		{"All", func(g *grid.Grid[byte]) []byte {
			var all []byte
			for p, v := range g.All() {
				all = append(all, byte(p.X), byte(p.Y), v)
			}
			return all
		}},
		{"Crop", func(g *grid.Grid[byte]) []byte {
			p, e := g.Crop(1, 0, 2, 2)
			q, f := g.Crop(1, 0, 3, 2)
			return append(p.Cells(), byte(e), byte(f), told(q == nil))
		}},
		{"Paste", func(g *grid.Grid[byte]) []byte {
			p, _ := grid.New[byte](3, 3)
			e, f := p.Paste(0, 1, g), g.Paste(0, 0, p)
			return append(p.Cells(), byte(e), byte(f))
		}},
		{"Map", func(g *grid.Grid[byte]) []byte {
			return grid.Map(g, func(v byte) byte { return v + 1 }).Cells()
		}},
		{"Tiles", func(g *grid.Grid[byte]) []byte {
			var all []byte
			for r := range grid.Tiles(g.W(), g.H(), 2, 1) {
				v, _ := g.At(r.X, r.Y)
				all = append(all, byte(r.W), byte(r.H), v)
			}
			return all
		}},
	}
}

func told(ok bool) byte {
	if ok {
		return 1
	}
	return 0
}

// R2, R4: what is handed in to Of stays, spare room included, and isn't kept;
// what is answered is new memory.
func TestKeepsAndSharesNothing(t *testing.T) {
	for _, c := range calls() {
		for _, b := range [][]byte{nil, {1}, {1, 2, 3, 4, 5}, {1, 2, 3, 4, 5, 6}, {6, 5, 4, 3, 2, 1}, {0, 0, 0, 0, 0, 0, 0}} {
			if s := probe.Kept(b, func(b []byte) ([]byte, api.Errno) {
				g, e := grid.Of(3, 2, b)
				if e != api.OK {
					return nil, e
				}
				return c.do(g), e
			}); s != "" {
				t.Errorf("%s of %v: %s", c.name, b, s)
			}
		}
	}
}

// R4: the list that a grid was made of is changed, and the grid isn't.
func TestOfKeepsNothing(t *testing.T) {
	list, all := probe.Roomy(count(1, 6))
	g := made(t, 2, 3, list)
	h := made(t, 3, 2, list)
	probe.Spoil(all)
	wantGrid(t, g, 2, 3, count(1, 6))
	before := slices.Clone(all)
	g.Set(1, 2, 99)
	wantGrid(t, g, 2, 3, []int{1, 2, 3, 4, 5, 99})
	wantGrid(t, h, 3, 2, count(1, 6))
	if !slices.Equal(all, before) {
		t.Error("a Set changes what was handed in:", all)
	}
}

// R4: what Cells answers is one's own, spare room included.
func TestCellsAreNew(t *testing.T) {
	g := counted(t, 3, 2, 1)
	first, second := g.Cells(), g.Cells()
	probe.Spoil(first)
	wantGrid(t, g, 3, 2, count(1, 6))
	g.Set(0, 0, 99)
	if !slices.Equal(second, count(1, 6)) {
		t.Error("answers share memory:", second)
	}
	probe.Spoil(second)
	wantGrid(t, g, 3, 2, []int{99, 2, 3, 4, 5, 6})
}

// R4: grids of one size are several.
func TestNewIsNew(t *testing.T) {
	g, _ := grid.New[int](2, 2)
	h, _ := grid.New[int](2, 2)
	g.Set(1, 1, 9)
	wantGrid(t, h, 2, 2, make([]int, 4))
	wantGrid(t, g, 2, 2, []int{0, 0, 0, 9})
	again, _ := grid.New[int](2, 2)
	wantGrid(t, again, 2, 2, make([]int, 4))
}

// R5, R6: the same call answers the same, whatever was asked ahead and is asked
// beside, of one grid too.
func TestSameAnswers(t *testing.T) {
	t.Parallel()
	all := calls()
	one := made(t, 3, 2, []byte{7, 8, 9, 10, 11, 12})
	if s := probe.Steady(2*len(all), func(i int) ([]byte, api.Errno) {
		g := one
		if i >= len(all) {
			g, _ = grid.Of(3, 2, []byte{1, 2, 3, 4, 5, 6})
		}
		return all[i%len(all)].do(g), api.OK
	}); s != "" {
		t.Error(s)
	}
	if !bytes.Equal(one.Cells(), []byte{7, 8, 9, 10, 11, 12}) {
		t.Error("changed by calls that don't set:", one.Cells())
	}
}
