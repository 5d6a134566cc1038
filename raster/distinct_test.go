package raster_test

import (
	"slices"
	"testing"

	"darkroom/api"
	"darkroom/probe"
	"darkroom/raster"
)

// plainDistinct looks for each pixel among those that are there already.
func plainDistinct(m api.Image) []api.Color {
	var all []api.Color
	for _, c := range plainColors(m) {
		if !slices.Contains(all, c) {
			all = append(all, c)
		}
	}
	return all
}

func wantDistinct(t *testing.T, what string, m api.Image, want []api.Color) {
	t.Helper()
	if all := raster.Distinct(m); !slices.Equal(all, want) {
		t.Fatalf("%s: Distinct has %d colours; want %d: %v ..; want %v ..", what, len(all), len(want), all[:min(len(all), 9)], want[:min(len(want), 9)])
	}
}

// P9.4: the order in which colours are met: row by row, and not by their samples;
// those that come again don't count again, side by side or not.
func TestDistinctKnown(t *testing.T) {
	a, b, c := api.Color{R: 9, A: 1}, api.Color{G: 5}, api.Color{}
	for name, x := range map[string]struct {
		w, h         int
		pixels, want []api.Color
	}{
		"one pixel":               {1, 1, []api.Color{a}, []api.Color{a}},
		"one clear black pixel":   {1, 1, []api.Color{c}, []api.Color{c}},
		"a row of one colour":     {3, 1, []api.Color{b, b, b}, []api.Color{b}},
		"a row of noughts":        {3, 1, []api.Color{c, c, c}, []api.Color{c}},
		"a row":                   {4, 1, []api.Color{a, b, a, c}, []api.Color{a, b, c}},
		"greatest first":          {3, 1, []api.Color{a, b, c}, []api.Color{a, b, c}},
		"least first":             {3, 1, []api.Color{c, b, a}, []api.Color{c, b, a}},
		"noughts last":            {2, 1, []api.Color{b, c}, []api.Color{b, c}},
		"a column":                {1, 4, []api.Color{b, b, c, b}, []api.Color{b, c}},
		"row by row":              {2, 2, []api.Color{a, b, c, a}, []api.Color{a, b, c}},
		"one at the end":          {3, 2, []api.Color{a, a, a, a, a, b}, []api.Color{a, b}},
		"runs that come again":    {4, 2, []api.Color{a, a, b, b, a, a, b, b}, []api.Color{a, b}},
		"each third is the first": {3, 2, []api.Color{c, a, c, b, c, a}, []api.Color{c, a, b}},
	} {
		wantDistinct(t, name, probe.ImageOf(x.w, x.h, x.pixels), x.want)
	}
}

// P9.4: colours that differ in one sample alone, in alpha alone too, and such of
// which the same samples stand elsewhere.
func TestDistinctOfNearColors(t *testing.T) {
	near := []api.Color{
		{R: 1, G: 2, B: 3, A: 4}, {R: 1, G: 2, B: 3, A: 5}, {R: 1, G: 2, B: 3}, {R: 1, G: 2, B: 3, A: 260}, {R: 1, G: 2, B: 3, A: 65535},
		{R: 1, G: 2, B: 4, A: 4}, {R: 1, G: 3, B: 3, A: 4}, {R: 2, G: 2, B: 3, A: 4}, {R: 257, G: 2, B: 3, A: 4},
		{R: 2, G: 1, B: 3, A: 4}, {R: 1, G: 2, B: 4, A: 3}, {R: 4, G: 3, B: 2, A: 1}, {R: 3, G: 4, B: 1, A: 2}, {},
	}
	wantDistinct(t, "near ones", probe.ImageOf(7, 2, near), near)
	wantDistinct(t, "near ones, twice", probe.ImageOf(14, 2, slices.Concat(near, near)), near)
	slices.Reverse(near)
	wantDistinct(t, "near ones, the last ones first", probe.ImageOf(2, 7, near), near)
	var alphas []api.Color
	for a := range 65536 {
		alphas = append(alphas, api.Color{R: 5, G: 6, B: 7, A: uint16(a)})
	}
	wantDistinct(t, "each alpha", probe.ImageOf(256, 256, alphas), alphas)
}

// P9.4: one colour, all colours different, and few of them, in images of each
// size.
func TestDistinct(t *testing.T) {
	for _, s := range probe.Sizes() {
		all := probe.Colors(1, s.W*s.H)
		wantDistinct(t, "all different", probe.ImageOf(s.W, s.H, all), all)
		wantDistinct(t, "one colour", mustFill(t, s.W, s.H, all[0]), all[:1])
		m := api.Image{W: s.W, H: s.H}
		for _, x := range probe.Noise(2, s.W*s.H) {
			c := all[int(x)%min(len(all), 20)]
			m.Pix = append(m.Pix, c.R, c.G, c.B, c.A)
		}
		wantDistinct(t, "few colours", m, plainDistinct(m))
	}
}

// P9.4: what stands in spare room is no pixel.
func TestDistinctSpareRoom(t *testing.T) {
	wantDistinct(t, "one pixel", probe.RoomyImage(probe.ImageOf(1, 1, []api.Color{{G: 1}})), []api.Color{{G: 1}})
}

// P9.4: an image that isn't good has none.
func TestDistinctOfNotGood(t *testing.T) {
	for _, m := range probe.BadImages() {
		if all := raster.Distinct(m); len(all) != 0 {
			t.Errorf("%s has %v", probe.Told(m), all)
		}
	}
}

// R4: each answer is one's own, spare room included.
func TestDistinctIsNew(t *testing.T) {
	m := probe.Image(3, 5, 2)
	want := plainDistinct(m)
	first, second := raster.Distinct(m), raster.Distinct(m)
	first = first[:cap(first)]
	for i := range first {
		first[i] = api.Color{R: 1}
	}
	if !slices.Equal(second, want) {
		t.Error("answers share memory:", second)
	}
	wantDistinct(t, "asked again", m, want)
}
