package grid_test

import (
	"slices"
	"strconv"
	"testing"

	"darkroom/api"
	"darkroom/grid"
	"darkroom/probe"
)

// P7.1: each size that may be, and its cells.
func TestNew(t *testing.T) {
	for _, s := range probe.Sizes() {
		g, e := grid.New[int](s.W, s.H)
		if e != api.OK {
			t.Fatal(s, e)
		}
		wantGrid(t, g, s.W, s.H, make([]int, s.W*s.H))
	}
}

// P7.1: cells of all kinds are their kind's zero ones.
func TestNewOfOtherKinds(t *testing.T) {
	strings, _ := grid.New[string](2, 3)
	wantGrid(t, strings, 2, 3, make([]string, 6))
	spots, _ := grid.New[spot](3, 2)
	wantGrid(t, spots, 3, 2, make([]spot, 6))
	pointers, _ := grid.New[*int](1, 2)
	wantGrid(t, pointers, 1, 2, make([]*int, 2))
	arrays, _ := grid.New[[3]uint16](2, 1)
	wantGrid(t, arrays, 2, 1, make([][3]uint16, 2))
	errors, _ := grid.New[error](2, 2)
	wantGrid(t, errors, 2, 2, make([]error, 4))
	nothings, _ := grid.New[struct{}](2, 2)
	wantGrid(t, nothings, 2, 2, make([]struct{}, 4))
	if functions, e := grid.New[func()](2, 1); e != api.OK || len(functions.Cells()) != 2 || functions.Cells()[1] != nil {
		t.Error("functions", e)
	}
}

// P7.1: sizes that may not be.
func TestNewSizes(t *testing.T) {
	for _, s := range probe.WrongSizes() {
		if g, e := grid.New[byte](s.W, s.H); e != api.ErrSize || g != nil {
			t.Errorf("New(%d, %d) = %v, %d", s.W, s.H, g, e)
		}
	}
}

// P7.1: the document's example, and cells of each kind.
func TestOf(t *testing.T) {
	g := made(t, 2, 2, []int{1, 2, 3, 4})
	if v, ok := g.At(1, 0); v != 2 || !ok {
		t.Error(v, ok)
	}
	for _, s := range probe.Sizes() {
		wantGrid(t, counted(t, s.W, s.H, 7), s.W, s.H, count(7, s.W*s.H))
	}
	words := []string{"a", "", "longer", "b", "a", "é"}
	wantGrid(t, made(t, 2, 3, words), 2, 3, words)
	spots := []spot{{"a", api.Point{X: 1, Y: 2}}, {}, {"b", api.Point{X: -1}}}
	wantGrid(t, made(t, 3, 1, spots), 3, 1, spots)
	wantGrid(t, made(t, 1, 3, spots), 1, 3, spots)
	colours := []api.Color{{R: 1}, {G: 2}, {B: 65535}, {A: 4}}
	wantGrid(t, made(t, 2, 2, colours), 2, 2, colours)
	lists := made(t, 1, 2, [][]int{{1, 2}, nil})
	if v, ok := lists.At(0, 0); !slices.Equal(v, []int{1, 2}) || !ok {
		t.Error(v, ok)
	}
}

// P7.1: sizes that may not be go ahead of lists that don't fit; so they do where
// the list has just as many cells as the product says.
func TestOfSizes(t *testing.T) {
	for _, s := range probe.WrongSizes() {
		lengths := []int{0, 1, 5}
		if n := s.W * s.H; n >= 0 && n <= 1<<20 {
			lengths = append(lengths, n, n+1)
		}
		for _, n := range lengths {
			if g, e := grid.Of(s.W, s.H, make([]byte, n)); e != api.ErrSize || g != nil {
				t.Errorf("Of(%d, %d, %d cells) = %v, %d", s.W, s.H, n, g, e)
			}
		}
		if g, e := grid.Of[string](s.W, s.H, nil); e != api.ErrSize || g != nil {
			t.Errorf("Of(%d, %d, nil) = %v, %d", s.W, s.H, g, e)
		}
	}
}

// P7.1: one cell too few, one too many, none, a row too many.
func TestOfLengths(t *testing.T) {
	for _, s := range probe.Sizes() {
		n := s.W * s.H
		for _, wrong := range []int{0, n - 1, n + 1, n + s.W, 2 * n} {
			if g, e := grid.Of(s.W, s.H, make([]byte, wrong)); e != api.ErrLong || g != nil {
				t.Errorf("Of(%d, %d, %d cells) = %v, %d", s.W, s.H, wrong, g, e)
			}
		}
		if g, e := grid.Of[spot](s.W, s.H, nil); e != api.ErrLong || g != nil {
			t.Errorf("Of(%d, %d, nil) = %v, %d", s.W, s.H, g, e)
		}
	}
}

// P7.1: a cell that stands in spare room doesn't count.
func TestOfSpareRoom(t *testing.T) {
	list, all := probe.Roomy([]int{1, 2, 3, 4, 5})
	if g, e := grid.Of(3, 2, list); e != api.ErrLong || g != nil {
		t.Error(g, e)
	}
	wantGrid(t, made(t, 5, 1, list), 5, 1, []int{1, 2, 3, 4, 5})
	if all[len(all)-1] != 238 {
		t.Error("changed:", all)
	}
}

// P7.1: At, on and around each edge.
func TestAt(t *testing.T) {
	for _, s := range probe.Sizes() {
		g := counted(t, s.W, s.H, 1)
		for _, p := range probe.Around(s) {
			want, there := 0, probe.Within(s, p)
			if there {
				want = 1 + p.Y*s.W + p.X
			}
			if v, ok := g.At(p.X, p.Y); v != want || ok != there {
				t.Errorf("%v: At(%d, %d) = %d, %v; want %d, %v", s, p.X, p.Y, v, ok, want, there)
			}
		}
	}
}

// P7.1, R3: beside false stands the zero cell.
func TestAtZero(t *testing.T) {
	words := made(t, 1, 1, []string{"a"})
	if v, ok := words.At(1, 0); v != "" || ok {
		t.Error(v, ok)
	}
	spots := made(t, 1, 1, []spot{{name: "a"}})
	if v, ok := spots.At(0, -1); v != (spot{}) || ok {
		t.Error(v, ok)
	}
}

// P7.1: Set sets one cell where there is one, and nothing else.
func TestSet(t *testing.T) {
	for _, s := range []probe.Size{{1, 1}, {4, 1}, {1, 3}, {4, 3}, {3, 4}} {
		for _, p := range probe.Around(s) {
			g, want := counted(t, s.W, s.H, 1), count(1, s.W*s.H)
			if probe.Within(s, p) {
				want[p.Y*s.W+p.X] = 99
			}
			if ok := g.Set(p.X, p.Y, 99); ok != probe.Within(s, p) {
				t.Errorf("%v: Set(%d, %d) = %v", s, p.X, p.Y, ok)
			}
			wantGrid(t, g, s.W, s.H, want)
		}
	}
}

// P7.1: Set, at the last places of the greatest grids.
func TestSetFarthest(t *testing.T) {
	for _, s := range probe.Sizes() {
		g, want := counted(t, s.W, s.H, 1), count(1, s.W*s.H)
		for _, x := range []int{0, s.W - 1} {
			for _, y := range []int{0, s.H - 1} {
				if !g.Set(x, y, -5) {
					t.Error(s, x, y)
				}
				want[y*s.W+x] = -5
			}
		}
		if g.Set(s.W, s.H-1, -6) || g.Set(s.W-1, s.H, -6) || g.Set(-1, 0, -6) || g.Set(0, -1, -6) {
			t.Error("outside of", s)
		}
		wantGrid(t, g, s.W, s.H, want)
	}
}

// P7.1: a cell may be set again, back to zero too; grids of other kinds.
func TestSetAgain(t *testing.T) {
	g, _ := grid.New[string](2, 2)
	for i, word := range []string{"a", "b", "", "c"} {
		if !g.Set(1, 0, word) || !g.Set(0, 1, strconv.Itoa(i)) {
			t.Error(i)
		}
		wantGrid(t, g, 2, 2, []string{"", word, strconv.Itoa(i), ""})
	}
	s, _ := grid.New[spot](1, 2)
	s.Set(0, 1, spot{"x", api.Point{X: 3}})
	wantGrid(t, s, 1, 2, []spot{{}, {"x", api.Point{X: 3}}})
}
