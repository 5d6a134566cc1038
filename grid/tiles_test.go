package grid_test

import (
	"math"
	"slices"
	"testing"

	"darkroom/api"
	"darkroom/grid"
	"darkroom/probe"
)

// tilesAsTold finds the tiles place by place: each place adds itself to its one.
func tilesAsTold(w, h, tw, th int) []api.Rect {
	var all []api.Rect
	numbers := map[api.Point]int{}
	for y := range h {
		for x := range w {
			key := api.Point{X: x / tw, Y: y / th}
			i, met := numbers[key]
			if !met {
				i = len(all)
				numbers[key] = i
				all = append(all, api.Rect{X: x, Y: y})
			}
			all[i].W, all[i].H = x-all[i].X+1, y-all[i].Y+1
		}
	}
	return all
}

func wantTiles(t *testing.T, w, h, tw, th int, want []api.Rect) {
	t.Helper()
	if all := slices.Collect(grid.Tiles(w, h, tw, th)); !slices.Equal(all, want) {
		t.Fatalf("Tiles(%d, %d, %d, %d) = %v; want %v", w, h, tw, th, head(all), head(want))
	}
}

// P7.4: the document's example, and others told one by one: nothing left, one
// tile wider and higher than the grid, something left at the right, at the
// bottom and at both.
func TestTilesExamples(t *testing.T) {
	wantTiles(t, 5, 3, 2, 2, []api.Rect{
		{X: 0, Y: 0, W: 2, H: 2}, {X: 2, Y: 0, W: 2, H: 2}, {X: 4, Y: 0, W: 1, H: 2},
		{X: 0, Y: 2, W: 2, H: 1}, {X: 2, Y: 2, W: 2, H: 1}, {X: 4, Y: 2, W: 1, H: 1},
	})
	wantTiles(t, 4, 2, 2, 1, []api.Rect{{W: 2, H: 1}, {X: 2, W: 2, H: 1}, {Y: 1, W: 2, H: 1}, {X: 2, Y: 1, W: 2, H: 1}})
	wantTiles(t, 4, 2, 4, 2, []api.Rect{{W: 4, H: 2}})
	wantTiles(t, 4, 2, 5, 3, []api.Rect{{W: 4, H: 2}})
	wantTiles(t, 4, 2, 3, 2, []api.Rect{{W: 3, H: 2}, {X: 3, W: 1, H: 2}})
	wantTiles(t, 2, 4, 2, 3, []api.Rect{{W: 2, H: 3}, {Y: 3, W: 2, H: 1}})
	wantTiles(t, 4, 4, 3, 3, []api.Rect{{W: 3, H: 3}, {X: 3, W: 1, H: 3}, {Y: 3, W: 3, H: 1}, {X: 3, Y: 3, W: 1, H: 1}})
	wantTiles(t, 2, 2, 1, 1, []api.Rect{{W: 1, H: 1}, {X: 1, W: 1, H: 1}, {Y: 1, W: 1, H: 1}, {X: 1, Y: 1, W: 1, H: 1}})
	wantTiles(t, 1, 1, 1, 1, []api.Rect{{W: 1, H: 1}})
}

// P7.4: all small sizes and tiles, place by place, and each place in just one.
func TestTilesEach(t *testing.T) {
	for w := 1; w <= 7; w++ {
		for h := 1; h <= 7; h++ {
			for tw := 1; tw <= 9; tw++ {
				for th := 1; th <= 9; th++ {
					wantTiles(t, w, h, tw, th, tilesAsTold(w, h, tw, th))
					wantEachOnce(t, w, h, tw, th)
				}
			}
		}
	}
}

// wantEachOnce counts how often tiles have each place.
func wantEachOnce(t *testing.T, w, h, tw, th int) {
	t.Helper()
	g, _ := grid.New[int](w, h)
	for r := range grid.Tiles(w, h, tw, th) {
		for y := r.Y; y < r.Y+r.H; y++ {
			for x := r.X; x < r.X+r.W; x++ {
				if n, ok := g.At(x, y); n != 0 || !ok || !g.Set(x, y, 1) {
					t.Fatalf("Tiles(%d, %d, %d, %d): %v has %d, %d", w, h, tw, th, r, x, y)
				}
			}
		}
	}
	if slices.Contains(g.Cells(), 0) {
		t.Fatalf("Tiles(%d, %d, %d, %d): a place is in none", w, h, tw, th)
	}
}

// P7.4: the greatest grids, by tiles of 1 by 1, of all that a side has, of one
// less and one more, and by very great ones.
func TestTilesOfGreatest(t *testing.T) {
	great := []int{api.MaxSide, api.MaxSide + 1, 1 << 31, 1<<32 + 1, 1 << 62, math.MaxInt - api.MaxSide, math.MaxInt - 1, math.MaxInt}
	for _, s := range probe.Sizes() {
		for _, tw := range append(great, s.W, s.W+1, (s.W+1)/2, 1+s.W/3, max(s.W-1, 1)) {
			for _, th := range append(great, s.H, max(s.H-1, 1), 1+s.H/2) {
				wantTiles(t, s.W, s.H, tw, th, tilesAsTold(s.W, s.H, min(tw, s.W), min(th, s.H)))
			}
		}
		wantTiles(t, s.W, s.H, 1, 1, tilesAsTold(s.W, s.H, 1, 1))
		wantTiles(t, s.W, s.H, math.MaxInt, 1, tilesAsTold(s.W, s.H, s.W, 1))
		wantTiles(t, s.W, s.H, 1, math.MaxInt, tilesAsTold(s.W, s.H, 1, s.H))
	}
}

// P7.4: nothing, if the size may not be a grid's, or tiles have no cells.
func TestTilesOfNothing(t *testing.T) {
	for _, s := range probe.WrongSizes() {
		for _, side := range []int{1, 2, api.MaxSide, math.MaxInt, 0, -1, math.MinInt} {
			wantNoTiles(t, s.W, s.H, side, side)
		}
	}
	for _, s := range probe.Sizes() {
		for _, side := range []int{0, -1, -api.MaxSide, math.MinInt} {
			wantNoTiles(t, s.W, s.H, side, 1)
			wantNoTiles(t, s.W, s.H, 1, side)
			wantNoTiles(t, s.W, s.H, side, side)
			wantNoTiles(t, s.W, s.H, side, math.MaxInt)
		}
	}
}

// wantNoTiles stops at the first one, as there might be no last one.
func wantNoTiles(t *testing.T, w, h, tw, th int) {
	t.Helper()
	for r := range grid.Tiles(w, h, tw, th) {
		t.Errorf("Tiles(%d, %d, %d, %d) gives %v", w, h, tw, th, r)
		break
	}
}

// P7.4: who stops at the n-th tile gets no more, and begins anew next time.
func TestTilesStopped(t *testing.T) {
	all := tilesAsTold(5, 4, 2, 3)
	tiles := grid.Tiles(5, 4, 2, 3)
	for n := 1; n <= len(all); n++ {
		given := 0
		tiles(func(r api.Rect) bool {
			if given >= n || r != all[given] {
				t.Errorf("stopped at %d: tile %d is %v", n, given, r)
			}
			given++
			return given < n
		})
		if given != n {
			t.Errorf("stopped at %d: %d tiles", n, given)
		}
	}
	for range 2 {
		if again := slices.Collect(tiles); !slices.Equal(again, all) {
			t.Error(again)
		}
	}
}

// P7.3, P7.4: a grid cut into tiles, and put together of them, last ones first.
func TestCutAndPutTogether(t *testing.T) {
	for _, side := range []probe.Size{{1, 1}, {2, 3}, {3, 2}, {7, 1}, {1, 5}, {7, 5}, {9, 9}} {
		g := counted(t, 7, 5, 1)
		h, _ := grid.New[int](7, 5)
		tiles := slices.Collect(grid.Tiles(7, 5, side.W, side.H))
		for _, r := range slices.Backward(tiles) {
			p, e := g.Crop(r.X, r.Y, r.W, r.H)
			if e != api.OK || h.Paste(r.X, r.Y, p) != api.OK {
				t.Fatal(side, r, e)
			}
		}
		wantGrid(t, h, 7, 5, g.Cells())
	}
}
