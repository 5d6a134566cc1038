package raster_test

import (
	"fmt"
	"slices"
	"testing"

	"darkroom/api"
	"darkroom/probe"
	"darkroom/raster"
)

// P9.1: sizes that may be, with just the samples that they have, whatever stands
// in spare room.
func TestGood(t *testing.T) {
	for _, s := range probe.Sizes() {
		m := probe.Sampled(s.W, s.H, 4*s.W*s.H)
		if !raster.Good(m) || !raster.Good(probe.RoomyImage(m)) {
			t.Error(s)
		}
	}
}

// P9.1: sizes that may not be, a sample too few or too many, no samples.
func TestNotGood(t *testing.T) {
	for _, m := range probe.BadImages() {
		if raster.Good(m) {
			t.Error(probe.Told(m))
		}
	}
}

// P9.1: the longest images of each width, of MaxPixels pixels where that is to
// be had, and those with one row more.
func TestGoodOfEachWidth(t *testing.T) {
	pix := make([]uint16, 4*(api.MaxPixels+api.MaxSide))
	for w := 1; w <= api.MaxSide; w++ {
		h := min(api.MaxPixels/w, api.MaxSide)
		if !raster.Good(api.Image{W: w, H: h, Pix: pix[:4*w*h]}) || !raster.Good(api.Image{W: h, H: w, Pix: pix[:4*w*h]}) {
			t.Error(w, h)
		}
		h++
		if raster.Good(api.Image{W: w, H: h, Pix: pix[:4*w*h]}) || raster.Good(api.Image{W: h, H: w, Pix: pix[:4*w*h]}) {
			t.Error(w, h)
		}
	}
}

// unlikeImages are images, good and not, no two of which are alike. Some have
// the same samples, or the same number of them.
func unlikeImages() []api.Image {
	six := probe.Image(1, 6, 1).Pix
	all := []api.Image{
		{}, {W: 1}, {H: 1}, {W: 1, H: 1}, {W: -1}, {H: -1}, {W: 1 << 40, H: 1 << 40}, {W: -1 << 63, H: 1<<63 - 1},
		{Pix: []uint16{0}}, {Pix: []uint16{1}}, {Pix: []uint16{0, 0}}, {W: 1, H: 1, Pix: []uint16{1, 2, 3}},
		{W: 1, H: 1, Pix: []uint16{1, 2, 3, 4}}, {W: 1, H: 1, Pix: []uint16{1, 2, 3, 4, 5}}, {W: 1, H: 1, Pix: []uint16{1, 2, 3, 4, 0}},
	}
	for _, s := range []probe.Size{{6, 1}, {1, 6}, {3, 2}, {2, 3}, {6, 6}, {5, 1}, {-6, -1}, {6, 0}, {0, 6}} {
		all = append(all, api.Image{W: s.W, H: s.H, Pix: six}, api.Image{W: s.W, H: s.H, Pix: six[:23]})
	}
	for i := range six {
		for _, by := range []uint16{1, 256, 32768} {
			m := api.Image{W: 3, H: 2, Pix: slices.Clone(six)}
			m.Pix[i] += by
			all = append(all, m)
		}
	}
	return all
}

// P9.1: images that are alike, good or not, and such that differ in W, in H, in
// how many samples they have, in one sample.
func TestSame(t *testing.T) {
	all := unlikeImages()
	for i, a := range all {
		if !raster.Same(a, a) || !raster.Same(a, cloned(a)) || !raster.Same(probe.RoomyImage(a), a) || !raster.Same(a, probe.RoomyImage(a)) {
			t.Error("alike:", probe.Told(a))
		}
		for k, b := range all {
			if i != k && raster.Same(a, b) {
				t.Error("not alike:", probe.Told(a), probe.Told(b))
			}
		}
	}
}

// P9.1, R3: samples that are nil are as good as none.
func TestSameOfNil(t *testing.T) {
	for _, s := range []probe.Size{{0, 0}, {1, 1}, {-3, 5}} {
		a, b := api.Image{W: s.W, H: s.H}, api.Image{W: s.W, H: s.H, Pix: []uint16{}}
		if !raster.Same(a, b) || !raster.Same(b, a) {
			t.Error(s)
		}
	}
}

// P9.1: the greatest images, one sample of which differs.
func TestSameOfGreatest(t *testing.T) {
	for _, s := range probe.Sizes() {
		a := probe.Image(2, s.W, s.H)
		b := cloned(a)
		if !raster.Same(a, b) {
			t.Error("alike:", s)
		}
		for i := 0; i < len(b.Pix); i += 1 + i/8 {
			b.Pix[i]++
			if raster.Same(a, b) || raster.Same(b, a) {
				t.Error("not alike:", s, i)
			}
			b.Pix[i]--
		}
		b.Pix[len(b.Pix)-1] ^= 65535
		if raster.Same(a, b) || raster.Same(b, a) {
			t.Error("not alike at the end:", s)
		}
	}
}

// P9.1: the document's example.
func TestFillExample(t *testing.T) {
	m, e := raster.Fill(2, 1, api.Color{R: 1, G: 2, B: 3, A: 4})
	wantImage(t, "Fill", m, e, api.Image{W: 2, H: 1, Pix: []uint16{1, 2, 3, 4, 1, 2, 3, 4}})
}

// P9.1: each size that may be, of several colours.
func TestFill(t *testing.T) {
	colors := append(probe.Colors(3, 3), api.Color{}, api.Color{R: 65535, G: 65535, B: 65535, A: 65535}, api.Color{A: 1}, api.Color{R: 32768})
	for _, s := range probe.Sizes() {
		for _, c := range colors {
			m, e := raster.Fill(s.W, s.H, c)
			wantImage(t, fmt.Sprint("Fill ", s, c), m, e, probe.ImageOf(s.W, s.H, slices.Repeat([]api.Color{c}, s.W*s.H)))
			if !raster.Good(m) {
				t.Error(s, c)
			}
		}
	}
}

// P9.1: sizes that may not be.
func TestFillSizes(t *testing.T) {
	for _, s := range probe.WrongSizes() {
		for _, c := range []api.Color{{}, {R: 1, G: 2, B: 3, A: 4}} {
			m, e := raster.Fill(s.W, s.H, c)
			wantNoImage(t, fmt.Sprint("Fill ", s), m, e, api.ErrSize)
		}
	}
	for _, n := range probe.Far() {
		for _, k := range append(probe.Far(), -1, 0, 1, api.MaxSide) {
			m, e := raster.Fill(n, k, api.Color{R: 1})
			wantNoImage(t, fmt.Sprint("Fill ", n, k), m, e, api.ErrSize)
			m, e = raster.Fill(k, n, api.Color{R: 1})
			wantNoImage(t, fmt.Sprint("Fill ", k, n), m, e, api.ErrSize)
		}
	}
}

// wantAt looks at a place, which the image may have or not.
func wantAt(t *testing.T, m api.Image, p api.Point) {
	var want api.Color
	there := probe.Within(probe.Size{W: m.W, H: m.H}, p)
	if there {
		want = plainAt(m, p.X, p.Y)
	}
	if c, ok := raster.At(m, p.X, p.Y); c != want || ok != there {
		t.Helper()
		t.Fatalf("%d by %d: At(%d, %d) = %v, %v; want %v, %v", m.W, m.H, p.X, p.Y, c, ok, want, there)
	}
}

// P9.1: the pixel's samples, in their order.
func TestAtExample(t *testing.T) {
	m := api.Image{W: 2, H: 2, Pix: []uint16{1, 2, 3, 4, 5, 6, 7, 8, 9, 10, 11, 12, 13, 14, 15, 65535}}
	for p, want := range map[api.Point]api.Color{
		{}:           {R: 1, G: 2, B: 3, A: 4},
		{X: 1}:       {R: 5, G: 6, B: 7, A: 8},
		{Y: 1}:       {R: 9, G: 10, B: 11, A: 12},
		{X: 1, Y: 1}: {R: 13, G: 14, B: 15, A: 65535},
	} {
		if c, ok := raster.At(m, p.X, p.Y); c != want || !ok {
			t.Error(p, c, ok)
		}
	}
}

// P9.1: just within and just outside on each side, and far off.
func TestAt(t *testing.T) {
	for _, s := range probe.Sizes() {
		m := probe.Image(4, s.W, s.H)
		withRoom := probe.RoomyImage(m)
		for _, p := range probe.Around(s) {
			wantAt(t, m, p)
			wantAt(t, withRoom, p)
		}
	}
}

// P9.1: each place.
func TestAtEach(t *testing.T) {
	for _, s := range []probe.Size{{1, 1}, {5, 1}, {1, 5}, {5, 4}, {257, 255}} {
		m := probe.Image(5, s.W, s.H)
		for y := -1; y <= s.H; y++ {
			for x := -1; x <= s.W; x++ {
				wantAt(t, m, api.Point{X: x, Y: y})
			}
		}
	}
}

// P9.1, R2: images that aren't good have no pixels, though samples may stand
// where one would be looked for.
func TestAtOfNotGood(t *testing.T) {
	for _, m := range probe.BadImages() {
		for _, p := range []api.Point{{}, {X: 1}, {Y: 1}, {X: -1}, {X: m.W - 1, Y: m.H - 1}, {X: m.W, Y: m.H}} {
			if c, ok := raster.At(m, p.X, p.Y); c != (api.Color{}) || ok {
				t.Errorf("%s: At(%d, %d) = %v, %v", probe.Told(m), p.X, p.Y, c, ok)
			}
		}
	}
}
