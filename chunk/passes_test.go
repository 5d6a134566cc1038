package chunk_test

import (
	"math"
	"slices"
	"testing"

	"darkroom/api"
	"darkroom/chunk"
	"darkroom/probe"
)

// steps are X, Y, DX and DY of the seven passes.
func steps() [][4]int {
	return [][4]int{{0, 0, 8, 8}, {4, 0, 8, 8}, {0, 4, 4, 8}, {2, 0, 4, 4}, {0, 2, 2, 4}, {1, 0, 2, 2}, {0, 1, 1, 2}}
}

// wantPasses wants these passes of a picture of a size.
func wantPasses(t *testing.T, w, h int, want []api.Pass) {
	if l := chunk.Passes(w, h); !slices.Equal(l, want) {
		t.Helper()
		t.Fatalf("Passes(%d, %d) = %v; want %v", w, h, l, want)
	}
}

// P12.4: passes told number by number.
func TestPassesKnown(t *testing.T) {
	wantPasses(t, 1, 1, []api.Pass{{X: 0, Y: 0, DX: 8, DY: 8, W: 1, H: 1}})
	wantPasses(t, 5, 5, []api.Pass{
		{X: 0, Y: 0, DX: 8, DY: 8, W: 1, H: 1},
		{X: 4, Y: 0, DX: 8, DY: 8, W: 1, H: 1},
		{X: 0, Y: 4, DX: 4, DY: 8, W: 2, H: 1},
		{X: 2, Y: 0, DX: 4, DY: 4, W: 1, H: 2},
		{X: 0, Y: 2, DX: 2, DY: 4, W: 3, H: 1},
		{X: 1, Y: 0, DX: 2, DY: 2, W: 2, H: 3},
		{X: 0, Y: 1, DX: 1, DY: 2, W: 5, H: 2},
	})
	wantPasses(t, 1, 2, []api.Pass{{X: 0, Y: 0, DX: 8, DY: 8, W: 1, H: 1}, {X: 0, Y: 1, DX: 1, DY: 2, W: 1, H: 1}})
	wantPasses(t, 2, 1, []api.Pass{{X: 0, Y: 0, DX: 8, DY: 8, W: 1, H: 1}, {X: 1, Y: 0, DX: 2, DY: 2, W: 1, H: 1}})
}

// plainPasses counts the places of each pass one by one.
func plainPasses(w, h int) []api.Pass {
	var list []api.Pass
	for _, s := range steps() {
		p := api.Pass{X: s[0], Y: s[1], DX: s[2], DY: s[3]}
		for x := p.X; x < w; x += p.DX {
			p.W++
		}
		for y := p.Y; y < h; y += p.DY {
			p.H++
		}
		if p.W > 0 && p.H > 0 {
			list = append(list, p)
		}
	}
	return list
}

// P12.4: all small sizes, and the greatest of an image.
func TestPasses(t *testing.T) {
	for w := range 40 {
		for h := range 40 {
			if w*h > 0 {
				wantPasses(t, w, h, plainPasses(w, h))
			}
		}
	}
	for _, s := range probe.Sizes() {
		wantPasses(t, s.W, s.H, plainPasses(s.W, s.H))
	}
}

// P12.4: sizes far beyond those of images.
func TestFarPasses(t *testing.T) {
	far := slices.DeleteFunc(append(probe.Far(), 1, 2, 3, 4, 5), func(n int) bool { return n < 1 })
	for i := range 9 {
		far = append(far, math.MaxInt-i, math.MaxInt32-i)
	}
	count := func(from, step, end int) int {
		// Without a sign there is room for more than the greatest number.
		if uint64(end) <= uint64(from) {
			return 0
		}
		return int((uint64(end) - uint64(from) + uint64(step) - 1) / uint64(step))
	}
	for _, w := range far {
		for _, h := range far {
			var want []api.Pass
			for _, s := range steps() {
				if p := (api.Pass{X: s[0], Y: s[1], DX: s[2], DY: s[3], W: count(s[0], s[2], w), H: count(s[1], s[3], h)}); p.W > 0 && p.H > 0 {
					want = append(want, p)
				}
			}
			wantPasses(t, w, h, want)
		}
	}
}

// P12.4: without a width or a height there are none.
func TestNoPasses(t *testing.T) {
	none := []int{0, -1, -2, -7, -8, -9}
	for _, n := range probe.Far() {
		if n < 0 {
			none = append(none, n)
		}
	}
	for _, n := range none {
		for _, k := range append(probe.Far(), -5, -1, 0, 1, 2, 8, 9, 4096) {
			wantPasses(t, n, k, nil)
			wantPasses(t, k, n, nil)
		}
	}
}

// P12.6: each place of a picture is in just one pass.
func TestEachPlaceOnce(t *testing.T) {
	sizes := []probe.Size{{4096, 16}, {16, 4096}, {257, 255}, {1, 4096}, {4096, 1}}
	for w := 1; w <= 18; w++ {
		for h := 1; h <= 18; h++ {
			sizes = append(sizes, probe.Size{W: w, H: h})
		}
	}
	for _, s := range sizes {
		counts := make([]int, s.W*s.H)
		for _, p := range chunk.Passes(s.W, s.H) {
			for y := range p.H {
				for x := range p.W {
					counts[(p.Y+y*p.DY)*s.W+p.X+x*p.DX]++
				}
			}
		}
		if slices.Min(counts) != 1 || slices.Max(counts) != 1 {
			t.Error(s, counts)
		}
	}
}
