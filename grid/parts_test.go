package grid_test

import (
	"slices"
	"testing"

	"darkroom/api"
	"darkroom/grid"
	"darkroom/probe"
)

// P7.3: the document's example, and parts of each kind.
func TestCropExamples(t *testing.T) {
	g := made(t, 2, 2, []int{1, 2, 3, 4})
	for _, x := range []struct {
		x, y, w, h int
		cells      []int
	}{
		{1, 0, 1, 2, []int{2, 4}},
		{0, 0, 2, 2, []int{1, 2, 3, 4}},
		{0, 1, 2, 1, []int{3, 4}},
		{1, 1, 1, 1, []int{4}},
	} {
		p, e := g.Crop(x.x, x.y, x.w, x.h)
		if e != api.OK {
			t.Fatal(x, e)
		}
		wantGrid(t, p, x.w, x.h, x.cells)
	}
}

// P7.3: each part of a grid, and each that reaches over an edge, by one and more,
// or has no cells.
func TestCropEach(t *testing.T) {
	for _, s := range []probe.Size{{1, 1}, {4, 1}, {1, 3}, {4, 3}} {
		g := counted(t, s.W, s.H, 1)
		for y := -2; y <= s.H+1; y++ {
			for x := -2; x <= s.W+1; x++ {
				for h := -2; h <= s.H+2; h++ {
					for w := -2; w <= s.W+2; w++ {
						wantCrop(t, g, s, x, y, w, h)
					}
				}
			}
		}
		wantGrid(t, g, s.W, s.H, count(1, s.W*s.H))
	}
}

// wantCrop crops a grid of the numbers from 1 on.
func wantCrop(t *testing.T, g *grid.Grid[int], s probe.Size, x, y, w, h int) {
	t.Helper()
	p, e := g.Crop(x, y, w, h)
	if w < 1 || h < 1 || !probe.Lies(s, probe.Size{w, h}, x, y) {
		if p != nil || e != api.ErrRange {
			t.Fatalf("%v: Crop(%d, %d, %d, %d) = %v, %d", s, x, y, w, h, p, e)
		}
		return
	}
	if e != api.OK {
		t.Fatalf("%v: Crop(%d, %d, %d, %d) = %d", s, x, y, w, h, e)
	}
	var cells []int
	for k := range h {
		cells = append(cells, count(1+(y+k)*s.W+x, w)...)
	}
	wantGrid(t, p, w, h, cells)
}

// P7.3: the greatest grids, whole, their rows, columns, corners, and one more.
func TestCropOfGreatest(t *testing.T) {
	for _, s := range probe.Sizes() {
		g := counted(t, s.W, s.H, 1)
		for _, part := range []probe.Size{s, {s.W, 1}, {1, s.H}, {1, 1}} {
			x, y := s.W-part.W, s.H-part.H
			for _, at := range []api.Point{{}, {X: x}, {Y: y}, {X: x, Y: y}, {X: x / 2, Y: y / 2}, {X: x + 1}, {Y: y + 1}, {X: -1}, {Y: -1}} {
				wantCrop(t, g, s, at.X, at.Y, part.W, part.H)
			}
		}
		wantCrop(t, g, s, 0, 0, s.W+1, s.H)
		wantCrop(t, g, s, 0, 0, s.W, s.H+1)
	}
}

// P7.3, R1: numbers so great that sums and differences of them run over.
func TestCropFar(t *testing.T) {
	g := counted(t, 4, 3, 1)
	numbers := append(probe.Far(), -1, 0, 1, 2, 3)
	for _, x := range numbers {
		for _, y := range numbers {
			for _, w := range numbers {
				for _, h := range numbers {
					if slices.Max([]int{x, y, w, h}) < 4 && slices.Min([]int{x, y, w, h}) >= 0 {
						continue // TestCropEach looks at these
					}
					if p, e := g.Crop(x, y, w, h); p != nil || e != api.ErrRange {
						t.Fatalf("Crop(%d, %d, %d, %d) = %v, %d", x, y, w, h, p, e)
					}
				}
			}
		}
	}
}

// P7.3, R4: a part is a grid of its own, the whole one too.
func TestCropIsNew(t *testing.T) {
	for _, part := range []api.Rect{{W: 3, H: 2}, {X: 1, W: 2, H: 2}, {Y: 1, W: 3, H: 1}, {X: 1, Y: 1, W: 1, H: 1}} {
		g := counted(t, 3, 2, 1)
		p, _ := g.Crop(part.X, part.Y, part.W, part.H)
		again, _ := g.Crop(part.X, part.Y, part.W, part.H)
		cells := again.Cells()
		p.Set(0, 0, 99)
		wantGrid(t, g, 3, 2, count(1, 6))
		for at := range g.All() {
			g.Set(at.X, at.Y, 77)
		}
		wantGrid(t, again, part.W, part.H, cells)
		cells[0] = 99
		wantGrid(t, p, part.W, part.H, cells)
	}
}

// P7.3: parts of words and structs.
func TestCropOfOtherKinds(t *testing.T) {
	words := made(t, 3, 2, []string{"a", "b", "c", "d", "e", "f"})
	p, _ := words.Crop(1, 0, 2, 2)
	wantGrid(t, p, 2, 2, []string{"b", "c", "e", "f"})
	q, _ := p.Crop(1, 1, 1, 1)
	wantGrid(t, q, 1, 1, []string{"f"})
	spots := made(t, 1, 2, []spot{{name: "a"}, {name: "b"}})
	r, _ := spots.Crop(0, 1, 1, 1)
	wantGrid(t, r, 1, 1, []spot{{name: "b"}})
}

// P7.3: grids of each size pasted at each place, within and not.
func TestPasteEach(t *testing.T) {
	for _, s := range []probe.Size{{1, 1}, {4, 1}, {1, 3}, {4, 3}} {
		for _, part := range []probe.Size{{1, 1}, {2, 1}, {1, 2}, {2, 2}, {3, 2}, {4, 1}, {1, 3}, {4, 3}, {5, 1}, {1, 4}, {5, 4}} {
			p := counted(t, part.W, part.H, 101)
			for y := -part.H - 1; y <= s.H+1; y++ {
				for x := -part.W - 1; x <= s.W+1; x++ {
					wantPaste(t, counted(t, s.W, s.H, 1), p, s, part, x, y)
				}
			}
			wantGrid(t, p, part.W, part.H, count(101, part.W*part.H))
		}
	}
}

// wantPaste pastes numbers from 101 on into those from 1 on.
func wantPaste(t *testing.T, g, p *grid.Grid[int], s, part probe.Size, x, y int) {
	t.Helper()
	want, wantE := count(1, s.W*s.H), api.ErrRange
	if probe.Lies(s, part, x, y) {
		wantE = api.OK
		for i := range part.W * part.H {
			want[(y+i/part.W)*s.W+x+i%part.W] = 101 + i
		}
	}
	if e := g.Paste(x, y, p); e != wantE {
		t.Fatalf("%v: Paste(%d, %d, %v) = %d", s, x, y, part, e)
	}
	wantGrid(t, g, s.W, s.H, want)
}

// P7.3: into the greatest grids, whole ones, rows, columns and corners.
func TestPasteIntoGreatest(t *testing.T) {
	for _, s := range probe.Sizes() {
		for _, part := range []probe.Size{s, {s.W, 1}, {1, s.H}, {1, 1}} {
			p := counted(t, part.W, part.H, 101)
			wantPaste(t, counted(t, s.W, s.H, 1), p, s, part, s.W-part.W, s.H-part.H)
			wantPaste(t, counted(t, s.W, s.H, 1), p, s, part, s.W-part.W+1, s.H-part.H)
			wantPaste(t, counted(t, s.W, s.H, 1), p, s, part, s.W-part.W, s.H-part.H+1)
		}
	}
}

// P7.3, R1: places so great that sums of them run over.
func TestPasteFar(t *testing.T) {
	g := counted(t, 4, 3, 1)
	for _, part := range []probe.Size{{1, 1}, {4, 3}, {api.MaxSide, 1}, {1, api.MaxSide}} {
		p := counted(t, part.W, part.H, 101)
		for _, x := range probe.Far() {
			for _, y := range append(probe.Far(), 0, 1) {
				if e := g.Paste(x, y, p); e != api.ErrRange {
					t.Fatalf("Paste(%d, %d, %v) = %d", x, y, part, e)
				}
				if e := g.Paste(y, x, p); e != api.ErrRange {
					t.Fatalf("Paste(%d, %d, %v) = %d", y, x, part, e)
				}
			}
		}
	}
	wantGrid(t, g, 4, 3, count(1, 12))
}

// P7.3: a grid into itself: at its own place it stays, elsewhere it doesn't lie
// within.
func TestPasteIntoItself(t *testing.T) {
	for _, s := range smallSizes() {
		g := counted(t, s.W, s.H, 1)
		for y := -s.H; y <= s.H; y++ {
			for x := -s.W; x <= s.W; x++ {
				want := api.ErrRange
				if x == 0 && y == 0 {
					want = api.OK
				}
				if e := g.Paste(x, y, g); e != want {
					t.Errorf("%v: Paste(%d, %d) = %d", s, x, y, e)
				}
				wantGrid(t, g, s.W, s.H, count(1, s.W*s.H))
			}
		}
		if p, e := g.Crop(0, 0, s.W, s.H); e != api.OK || g.Paste(0, 0, p) != api.OK {
			t.Error(s, e)
		}
		wantGrid(t, g, s.W, s.H, count(1, s.W*s.H))
	}
}

// P7.3, R4: what was pasted isn't kept: the two grids stay two.
func TestPasteKeepsNothing(t *testing.T) {
	for _, s := range []probe.Size{{3, 2}, {1, 2}, {3, 1}} {
		g, p := counted(t, 3, 2, 1), counted(t, s.W, s.H, 101)
		if e := g.Paste(0, 0, p); e != api.OK {
			t.Fatal(e)
		}
		cells := g.Cells()
		for at := range p.All() {
			p.Set(at.X, at.Y, 77)
		}
		wantGrid(t, g, 3, 2, cells)
		g.Set(0, 0, 66)
		wantGrid(t, p, s.W, s.H, slices.Repeat([]int{77}, s.W*s.H))
	}
}

// P7.3: words and structs pasted.
func TestPasteOfOtherKinds(t *testing.T) {
	words := made(t, 2, 2, []string{"a", "b", "c", "d"})
	if e := words.Paste(1, 0, made(t, 1, 2, []string{"x", ""})); e != api.OK {
		t.Error(e)
	}
	wantGrid(t, words, 2, 2, []string{"a", "x", "c", ""})
	spots, _ := grid.New[spot](2, 1)
	if e := spots.Paste(1, 0, made(t, 1, 1, []spot{{name: "a"}})); e != api.OK {
		t.Error(e)
	}
	wantGrid(t, spots, 2, 1, []spot{{}, {name: "a"}})
}
