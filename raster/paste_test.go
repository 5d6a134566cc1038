package raster_test

import (
	"fmt"
	"testing"

	"darkroom/api"
	"darkroom/probe"
	"darkroom/raster"
)

// plainPaste asks at each pixel of m whether p has one for it. The places must be
// near ones.
func plainPaste(m, p api.Image, x, y int) api.Image {
	all := plainColors(m)
	for i := range all {
		at := api.Point{X: i%m.W - x, Y: i/m.W - y}
		if probe.Within(probe.Size{W: p.W, H: p.H}, at) {
			all[i] = plainAt(p, at.X, at.Y)
		}
	}
	return probe.ImageOf(m.W, m.H, all)
}

// wantPaste lays one image over another one.
func wantPaste(t *testing.T, m, p api.Image, x, y int) {
	t.Helper()
	out, e := raster.Paste(m, p, x, y)
	wantImage(t, fmt.Sprintf("Paste of %d by %d into %d by %d at (%d, %d)", p.W, p.H, m.W, m.H, x, y), out, e, plainPaste(m, p, x, y))
}

// P9.3: the document's example.
func TestPasteExample(t *testing.T) {
	p := probe.Image(1, 3, 3)
	m := mustFill(t, 2, 2, api.Color{R: 7})
	out, e := raster.Paste(m, p, -2, -2)
	wantImage(t, "Paste", out, e, probe.ImageOf(2, 2, []api.Color{plainAt(p, 2, 2), {R: 7}, {R: 7}, {R: 7}}))
}

// P9.3: places told one by one: within, over the right edge, over the upper left
// corner, outside; whatever alpha says.
func TestPasteKnown(t *testing.T) {
	m := mustFill(t, 3, 2, api.Color{A: 65535})
	p := probe.ImageOf(2, 2, []api.Color{{R: 1}, {G: 2, A: 1}, {}, {B: 4, A: 65535}})
	old := api.Color{A: 65535}
	for at, want := range map[api.Point][]api.Color{
		{}:             {{R: 1}, {G: 2, A: 1}, old, {}, {B: 4, A: 65535}, old},
		{X: 1}:         {old, {R: 1}, {G: 2, A: 1}, old, {}, {B: 4, A: 65535}},
		{X: 2}:         {old, old, {R: 1}, old, old, {}},
		{X: 2, Y: 1}:   {old, old, old, old, old, {R: 1}},
		{X: -1, Y: -1}: {{B: 4, A: 65535}, old, old, old, old, old},
		{X: 3}:         {old, old, old, old, old, old},
		{Y: -2}:        {old, old, old, old, old, old},
	} {
		out, e := raster.Paste(m, p, at.X, at.Y)
		wantImage(t, fmt.Sprint("Paste ", at), out, e, probe.ImageOf(3, 2, want))
	}
}

// P9.3: images of each size, greater ones too, at each place: within, over each
// edge and each corner, and outside on each side.
func TestPasteEach(t *testing.T) {
	for _, s := range []probe.Size{{1, 1}, {4, 1}, {1, 3}, {4, 3}} {
		m := probe.Image(2, s.W, s.H)
		for _, part := range []probe.Size{{1, 1}, {2, 1}, {1, 2}, {3, 2}, {4, 1}, {1, 3}, {4, 3}, {5, 1}, {1, 4}, {5, 4}, {9, 8}} {
			p := probe.Image(3, part.W, part.H)
			for y := -part.H - 2; y <= s.H+2; y++ {
				for x := -part.W - 2; x <= s.W+2; x++ {
					wantPaste(t, m, p, x, y)
				}
			}
			wantImage(t, "what was pasted", p, api.OK, probe.Image(3, part.W, part.H))
		}
		wantImage(t, "what was pasted into", m, api.OK, probe.Image(2, s.W, s.H))
	}
}

// P9.3: the greatest images, at places from the farthest at which they meet to
// those at which they don't.
func TestPasteOfGreatest(t *testing.T) {
	for i, s := range probe.Sizes() {
		m := probe.Image(4, s.W, s.H)
		for _, part := range []probe.Size{s, {api.MaxSide, 1}, {1, api.MaxSide}, {1, 1}, probe.Sizes()[(i+9)%15]} {
			p := probe.Image(5, part.W, part.H)
			for _, at := range []api.Point{
				{}, {X: s.W - 1, Y: s.H - 1}, {X: 1 - part.W, Y: 1 - part.H}, {X: s.W - part.W, Y: s.H - part.H},
				{X: s.W}, {Y: s.H}, {X: -part.W}, {Y: -part.H}, {X: s.W / 2, Y: -part.H / 2}, {X: -part.W / 2, Y: s.H / 2},
				{X: api.MaxSide - 1}, {X: 1 - api.MaxSide}, {Y: api.MaxSide - 1}, {Y: 1 - api.MaxSide},
			} {
				wantPaste(t, m, p, at.X, at.Y)
			}
		}
	}
}

// P9.3, R1: very great and very small numbers, so that sums of them run over:
// nothing of p lies within.
func TestPasteFar(t *testing.T) {
	numbers := append(probe.Far(), -api.MaxSide-1, -api.MaxSide, api.MaxSide, api.MaxSide+1)
	for _, s := range []probe.Size{{1, 1}, {4, 3}, {api.MaxSide, 1}, {1, api.MaxSide}} {
		m := probe.Image(6, s.W, s.H)
		for _, part := range []probe.Size{{1, 1}, {5, 4}, {api.MaxSide, 1}, {1, api.MaxSide}} {
			p := probe.Image(7, part.W, part.H)
			for _, n := range numbers {
				for _, k := range append(numbers, -2, -1, 0, 1, 2) {
					for _, at := range []api.Point{{X: n, Y: k}, {X: k, Y: n}} {
						out, e := raster.Paste(m, p, at.X, at.Y)
						wantImage(t, fmt.Sprint("Paste ", part, " into ", s, at), out, e, m)
					}
				}
			}
		}
	}
}

// P9.3: an image into itself.
func TestPasteIntoItself(t *testing.T) {
	for _, s := range []probe.Size{{1, 1}, {5, 1}, {1, 4}, {5, 4}} {
		m := probe.Image(8, s.W, s.H)
		for y := -s.H - 1; y <= s.H+1; y++ {
			for x := -s.W - 1; x <= s.W+1; x++ {
				wantPaste(t, m, m, x, y)
			}
		}
		wantImage(t, "what was pasted into itself", m, api.OK, probe.Image(8, s.W, s.H))
	}
}

// P9.3: either image not good, or both, wherever the one comes to lie.
func TestPasteOfNotGood(t *testing.T) {
	good := []api.Image{probe.Image(9, 1, 1), probe.Image(9, 3, 2)}
	for _, m := range probe.BadImages() {
		for _, at := range []api.Point{{}, {X: -1}, {X: 1 << 62, Y: -1 << 63}} {
			for _, p := range append(good, m) {
				out, e := raster.Paste(m, p, at.X, at.Y)
				wantNoImage(t, "Paste into one that isn't good", out, e, api.ErrImage)
				out, e = raster.Paste(p, m, at.X, at.Y)
				wantNoImage(t, "Paste of one that isn't good", out, e, api.ErrImage)
			}
		}
	}
}

// P9.3: an image cut into tiles, and put together of them, is the image.
func TestCutAndPutTogether(t *testing.T) {
	m := probe.Image(10, 7, 5)
	for _, side := range []int{1, 2, 3, 5, 7} {
		out := mustFill(t, 7, 5, api.Color{})
		for y := 0; y < 5; y += side {
			for x := 0; x < 7; x += side {
				part, e := raster.Crop(m, api.Rect{X: x, Y: y, W: min(side, 7-x), H: min(side, 5-y)})
				if e != api.OK {
					t.Fatal(x, y, e)
				}
				if out, e = raster.Paste(out, part, x, y); e != api.OK {
					t.Fatal(x, y, e)
				}
			}
		}
		wantImage(t, "put together", out, api.OK, m)
	}
}
