package raster_test

import (
	"fmt"
	"slices"
	"testing"

	"darkroom/api"
	"darkroom/probe"
	"darkroom/raster"
)

// sampled answers an image, good or not, with so many samples.
func sampled(w, h, n int) api.Image {
	return api.Image{W: w, H: h, Pix: slices.Repeat([]uint16{7}, n)}
}

// badImages are such as aren't good.
func badImages() []api.Image {
	bad := []api.Image{{Pix: []uint16{1, 2, 3, 4}}}
	for _, s := range probe.WrongSizes() {
		bad = append(bad, sampled(s.W, s.H, 0), sampled(s.W, s.H, 4))
		// Just as many as there would be, if such a size might be.
		if n := s.W * s.H; n > 0 && n <= 1<<17 {
			bad = append(bad, sampled(s.W, s.H, 4*n))
		}
	}
	for _, s := range probe.Sizes() {
		n := 4 * s.W * s.H
		for _, wrong := range []int{0, 1, n / 4, n - 4*s.W, n - 4, n - 1, n + 1, n + 4, n + 4*s.W, 2 * n} {
			bad = append(bad, sampled(s.W, s.H, wrong))
		}
	}
	return append(bad, roomy(sampled(1, 1, 3)), roomy(sampled(1, 1, 5)), roomy(sampled(2, 2, 15)))
}

// roomy answers an image whose samples are the middle of a greater list.
func roomy(m api.Image) api.Image {
	m.Pix, _ = probe.Roomy(m.Pix)
	return m
}

// cloned answers an image that shares nothing with m.
func cloned(m api.Image) api.Image {
	m.Pix = slices.Clone(m.Pix)
	return m
}

// plainAt finds a pixel by counting samples, as the given package tells of them.
func plainAt(m api.Image, x, y int) api.Color {
	i := 4 * (y*m.W + x)
	return api.Color{R: m.Pix[i], G: m.Pix[i+1], B: m.Pix[i+2], A: m.Pix[i+3]}
}

// plainColors are all of an image's pixels.
func plainColors(m api.Image) []api.Color {
	var all []api.Color
	for y := range m.H {
		for x := range m.W {
			all = append(all, plainAt(m, x, y))
		}
	}
	return all
}

// wantImage wants an answer without an error.
func wantImage(t *testing.T, what string, m api.Image, e api.Errno, want api.Image) {
	if e != api.OK || m.W != want.W || m.H != want.H || !slices.Equal(m.Pix, want.Pix) {
		t.Helper()
		t.Fatalf("%s = %s, %d; want %s", what, told(m), e, told(want))
	}
}

// wantNoImage wants an error, and nothing beside it.
func wantNoImage(t *testing.T, what string, m api.Image, e, want api.Errno) {
	if e != want || m.W != 0 || m.H != 0 || len(m.Pix) != 0 {
		t.Helper()
		t.Fatalf("%s = %s, %d; want %d", what, told(m), e, want)
	}
}

// mustFill answers an image of one colour.
func mustFill(t *testing.T, w, h int, c api.Color) api.Image {
	t.Helper()
	m, e := raster.Fill(w, h, c)
	if e != api.OK {
		t.Fatalf("Fill(%d, %d, %v): %d", w, h, c, e)
	}
	return m
}

// told tells an image, but not all samples of a great one.
func told(m api.Image) string {
	const most = 40
	if len(m.Pix) <= most {
		return fmt.Sprintf("%d by %d %v", m.W, m.H, m.Pix)
	}
	return fmt.Sprintf("%d by %d %v .. (%d)", m.W, m.H, m.Pix[:most], len(m.Pix))
}
