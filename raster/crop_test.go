package raster_test

import (
	"fmt"
	"testing"

	"darkroom/api"
	"darkroom/probe"
	"darkroom/raster"
)

// plainCrop takes a part pixel by pixel.
func plainCrop(m api.Image, r api.Rect) api.Image {
	var all []api.Color
	for y := range r.H {
		for x := range r.W {
			all = append(all, plainAt(m, r.X+x, r.Y+y))
		}
	}
	return probe.ImageOf(r.W, r.H, all)
}

// wantCrop takes a part that may lie within or not, of an image that stays.
func wantCrop(t *testing.T, m api.Image, r api.Rect) {
	t.Helper()
	part, e := raster.Crop(m, r)
	what := fmt.Sprintf("%d by %d: Crop %v", m.W, m.H, r)
	if r.W < 1 || r.H < 1 || !probe.Lies(probe.Size{W: m.W, H: m.H}, probe.Size{W: r.W, H: r.H}, r.X, r.Y) {
		wantNoImage(t, what, part, e, api.ErrRange)
		return
	}
	wantImage(t, what, part, e, plainCrop(m, r))
	if !raster.Good(part) {
		t.Fatal(what, "isn't good")
	}
}

// P9.3: parts told one by one: the whole, a pixel, a row, a column, a rectangle.
func TestCropExamples(t *testing.T) {
	one := func(n uint16) api.Color { return api.Color{R: n, G: n + 10, B: n + 20, A: n + 30} }
	m := probe.ImageOf(3, 2, []api.Color{one(1), one(2), one(3), one(4), one(5), one(6)})
	for r, want := range map[api.Rect][]api.Color{
		{W: 3, H: 2}:             {one(1), one(2), one(3), one(4), one(5), one(6)},
		{X: 1, Y: 1, W: 1, H: 1}: {one(5)},
		{W: 1, H: 1}:             {one(1)},
		{X: 2, Y: 1, W: 1, H: 1}: {one(6)},
		{Y: 1, W: 3, H: 1}:       {one(4), one(5), one(6)},
		{X: 1, W: 1, H: 2}:       {one(2), one(5)},
		{X: 1, W: 2, H: 2}:       {one(2), one(3), one(5), one(6)},
	} {
		part, e := raster.Crop(m, r)
		wantImage(t, fmt.Sprint("Crop ", r), part, e, probe.ImageOf(r.W, r.H, want))
	}
}

// P9.3: each part of an image, and each that reaches over an edge, by one and
// more, or has a width or a height of nought or below.
func TestCropEach(t *testing.T) {
	for _, s := range []probe.Size{{1, 1}, {4, 1}, {1, 3}, {4, 3}} {
		m := probe.Image(1, s.W, s.H)
		for y := -2; y <= s.H+1; y++ {
			for x := -2; x <= s.W+1; x++ {
				for h := -2; h <= s.H+2; h++ {
					for w := -2; w <= s.W+2; w++ {
						wantCrop(t, m, api.Rect{X: x, Y: y, W: w, H: h})
					}
				}
			}
		}
		wantImage(t, "what was cropped", m, api.OK, probe.Image(1, s.W, s.H))
	}
}

// P9.3: the greatest images, whole, their rows, columns, corners, rectangles, and
// such that reach over an edge by one.
func TestCropOfGreatest(t *testing.T) {
	for _, s := range probe.Sizes() {
		m := probe.Image(2, s.W, s.H)
		for _, part := range []probe.Size{s, {s.W, 1}, {1, s.H}, {1, 1}, {1 + s.W/2, 1 + s.H/3}} {
			x, y := s.W-part.W, s.H-part.H
			for _, at := range []api.Point{{}, {X: x}, {Y: y}, {X: x, Y: y}, {X: x / 2, Y: y / 2}, {X: x + 1}, {Y: y + 1}, {X: -1}, {Y: -1}} {
				wantCrop(t, m, api.Rect{X: at.X, Y: at.Y, W: part.W, H: part.H})
			}
		}
		wantCrop(t, m, api.Rect{W: s.W + 1, H: s.H})
		wantCrop(t, m, api.Rect{W: s.W, H: s.H + 1})
	}
}

// P9.3, R1: numbers so great that sums and differences of them run over.
func TestCropFar(t *testing.T) {
	m := probe.Image(3, 4, 3)
	numbers := append(probe.Far(), -1, 0, 1, 2)
	for _, n := range probe.Far() {
		for _, i := range numbers {
			for _, k := range numbers {
				for _, l := range numbers {
					for _, r := range []api.Rect{{X: n, Y: i, W: k, H: l}, {X: i, Y: n, W: k, H: l}, {X: i, Y: k, W: n, H: l}, {X: i, Y: k, W: l, H: n}} {
						part, e := raster.Crop(m, r)
						wantNoImage(t, "far off", part, e, api.ErrRange)
					}
				}
			}
		}
	}
}

// P9.3, R2: an image that isn't good goes ahead of a part that doesn't lie within.
func TestCropOfNotGood(t *testing.T) {
	for _, m := range probe.BadImages() {
		for _, r := range []api.Rect{{}, {W: 1, H: 1}, {W: m.W, H: m.H}, {X: -1, W: 1, H: 1}, {W: m.W + 1, H: m.H}, {W: 1, H: -1}, {X: 1 << 62, W: 1 << 62, H: 1 << 62}} {
			part, e := raster.Crop(m, r)
			wantNoImage(t, fmt.Sprint("Crop of ", m.W, m.H, r), part, e, api.ErrImage)
		}
	}
}
