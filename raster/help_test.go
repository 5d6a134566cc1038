package raster_test

import (
	"slices"
	"testing"

	"darkroom/api"
	"darkroom/probe"
	"darkroom/raster"
)

// cloned answers an image that shares nothing with m.
func cloned(m api.Image) api.Image {
	m.Pix = slices.Clone(m.Pix)
	return m
}

// plainAt finds a pixel by counting samples, as the given package tells of them.
func plainAt(m api.Image, x, y int) api.Color {
	i := 4 * (y*m.W + x)
	return api.Color{R: m.Pix[i], G: m.Pix[i+1], B: m.Pix[i+2], A: m.Pix[i+3]}
}

// plainColors are all of an image's pixels.
func plainColors(m api.Image) []api.Color {
	var all []api.Color
	for y := range m.H {
		for x := range m.W {
			all = append(all, plainAt(m, x, y))
		}
	}
	return all
}

// wantImage wants an answer without an error.
func wantImage(t *testing.T, what string, m api.Image, e api.Errno, want api.Image) {
	if s := probe.Other(m, e, want, api.OK); s != "" {
		t.Helper()
		t.Fatal(what, "=", s)
	}
}

// wantNoImage wants an error, and nothing beside it.
func wantNoImage(t *testing.T, what string, m api.Image, e, want api.Errno) {
	if s := probe.Other(m, e, api.Image{}, want); s != "" {
		t.Helper()
		t.Fatal(what, "=", s)
	}
}

// mustFill answers an image of one colour.
func mustFill(t *testing.T, w, h int, c api.Color) api.Image {
	t.Helper()
	m, e := raster.Fill(w, h, c)
	if e != api.OK {
		t.Fatalf("Fill(%d, %d, %v): %d", w, h, c, e)
	}
	return m
}
