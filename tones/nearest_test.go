package tones_test

import (
	"fmt"
	"slices"
	"testing"

	"darkroom/api"
	"darkroom/probe"
)

// greatest is the greatest sample.
const greatest = 65535

// P8.4: palettes that tell the sum of the squares from other ways to be near.
func TestNearestKnown(t *testing.T) {
	white := api.Color{R: greatest, G: greatest, B: greatest, A: greatest}
	for name, c := range map[string]struct {
		palette []api.Color
		c       api.Color
		want    int
	}{
		"one":                       {[]api.Color{white}, api.Color{}, 0},
		"one, and just it":          {[]api.Color{white}, white, 0},
		"the first":                 {[]api.Color{{R: 1}, {R: 9}, {R: 5}}, api.Color{}, 0},
		"one between":               {[]api.Color{{R: 5}, {R: 1}, {R: 9}}, api.Color{}, 1},
		"the last":                  {[]api.Color{{R: 9}, {R: 5}, {R: 1}}, api.Color{}, 2},
		"the same twice":            {[]api.Color{{R: 9}, {G: 3}, {G: 3}}, api.Color{G: 3}, 1},
		"the same twice, not it":    {[]api.Color{{G: 3}, {G: 3}}, api.Color{G: 9}, 0},
		"as near, below ahead":      {[]api.Color{{R: 10}, {R: 20}}, api.Color{R: 15}, 0},
		"as near, above ahead":      {[]api.Color{{R: 20}, {R: 10}}, api.Color{R: 15}, 0},
		"above is nearer":           {[]api.Color{{R: 10}, {R: 20}}, api.Color{R: 16}, 1},
		"below is nearer":           {[]api.Color{{R: 20}, {R: 10}}, api.Color{R: 14}, 1},
		"as near by blue":           {[]api.Color{{R: 90}, {B: 5}, {G: 5}, {R: 5}}, api.Color{}, 1},
		"as near by green":          {[]api.Color{{R: 90}, {G: 5}, {R: 5}, {B: 5}}, api.Color{}, 1},
		"as near by red":            {[]api.Color{{R: 90}, {R: 5}, {B: 5}, {G: 5}}, api.Color{}, 1},
		"as near by several":        {[]api.Color{{R: 6}, {R: 5}, {R: 4, G: 3}, {G: 3, B: 4}}, api.Color{}, 1},
		"squares, not sums":         {[]api.Color{{B: 15}, {R: 10, G: 10}}, api.Color{}, 1},
		"squares, not the greatest": {[]api.Color{{R: 10, G: 10, B: 10}, {G: 15}}, api.Color{}, 1},
		"above and below":           {[]api.Color{{R: 90, G: 110, B: 100}, {R: 100, G: 100, B: 101}}, api.Color{R: 100, G: 100, B: 100}, 1},
		"no wrap round":             {[]api.Color{{R: greatest}, {R: 2}}, api.Color{}, 1},
		"no wrap round below":       {[]api.Color{{G: 0}, {G: greatest - 2}}, api.Color{G: greatest}, 1},
		"a sum above 32 bits":       {[]api.Color{{R: greatest, G: 363}, {R: 100}}, api.Color{}, 1},
		"a sum above 31 bits":       {[]api.Color{{B: 50000}, {R: 100}}, api.Color{}, 1},
		"the greatest by one":       {[]api.Color{white, {R: greatest, G: greatest, B: greatest - 1}}, api.Color{}, 1},
		"the greatest by one square": {[]api.Color{{R: greatest, G: greatest, B: 1}, {R: greatest, G: greatest}},
			api.Color{}, 1},
		"far from all":            {[]api.Color{white, white}, api.Color{}, 0},
		"far from all below":      {[]api.Color{{}, {}}, white, 0},
		"apart by alpha alone":    {[]api.Color{{R: 1}, {R: 1, A: greatest}}, api.Color{R: 1, A: greatest}, 0},
		"alpha is like, red not":  {[]api.Color{{R: 2, A: 7}, {R: 1, A: greatest}}, api.Color{A: 7}, 1},
		"alpha is no tie's end":   {[]api.Color{{R: 9}, {R: 1, A: 1}, {B: 1, A: 7}}, api.Color{A: 7}, 1},
		"clear, as another":       {[]api.Color{{R: 1, A: greatest}, {A: 0}}, api.Color{A: greatest}, 1},
		"clear, what is near":     {[]api.Color{{R: 9, A: 0}, {R: 1, A: greatest}}, api.Color{R: 1}, 1},
		"clear in a clear colour": {[]api.Color{{R: 9, A: 9}, {R: 50}}, api.Color{}, 0},
	} {
		wantNearest(t, name, c.palette, c.c, c.want)
	}
}

// P8.4: of no colour there's none, whatever stands behind.
func TestNearestOfNone(t *testing.T) {
	for _, c := range append(probe.Colors(1, 100), api.Color{}, api.Color{A: greatest}, api.Color{R: greatest, G: greatest, B: greatest, A: greatest}) {
		wantNearest(t, "nil", nil, c, -1)
		wantNearest(t, "empty", []api.Color{}, c, -1)
		wantNearest(t, "spare room", []api.Color{c, c}[:0], c, -1)
	}
}

// P8.4: what is behind a palette in its list isn't of it, nor what is ahead.
func TestNearestInPart(t *testing.T) {
	all := []api.Color{{R: 5}, {R: 90}, {R: 50}, {R: 5}}
	wantNearest(t, "part", all[1:3], api.Color{R: 5}, 1)
	wantNearest(t, "part of one", all[1:2], api.Color{R: 5}, 0)
}

// P8.4: palettes of many lengths, near and far, with colours that come again.
func TestNearestOfMany(t *testing.T) {
	for _, n := range []int{1, 2, 3, 4, 5, 7, 8, 9, 15, 16, 17, 31, 64, 100, 255, 256, 257, 600} {
		for seed := range uint32(4) {
			palette := probe.Colors(seed, n)
			for i := range palette {
				palette[i] = coarse(palette[i], seed)
			}
			for _, c := range slices.Concat(probe.Colors(seed+100, 60), palette[:min(n, 20)]) {
				c = coarse(c, seed)
				wantNearest(t, fmt.Sprint(n, " colours of seed ", seed), palette, c, plainNearest(palette, c))
			}
		}
	}
}

// coarse brings colours nearer together, so that some are alike and some are as
// near as others.
func coarse(c api.Color, how uint32) api.Color {
	step := []uint16{1, 20000, 257, 8000}[how%4]
	c.R, c.G, c.B = c.R/step*step, c.G/step*step, c.B/step*step
	return c
}

// P8.4: every place of a long palette, also one that no byte and no sample tells.
func TestNearestAtEachPlace(t *testing.T) {
	far := api.Color{R: 1000, G: 2000, B: 3000}
	for _, n := range []int{1, 2, 255, 256, 257, 300} {
		palette := slices.Repeat([]api.Color{far}, n)
		for i := range palette {
			palette[i] = api.Color{B: 9}
			wantNearest(t, fmt.Sprint("at ", i, " of ", n), palette, api.Color{}, i)
			palette[i] = far
		}
	}
	palette := slices.Repeat([]api.Color{far}, 70000)
	wantNearest(t, "all alike", palette, api.Color{}, 0)
	palette[65536].R, palette[69999].R = 999, 998
	wantNearest(t, "behind 65536", palette, api.Color{}, 69999)
	palette[69999] = far
	wantNearest(t, "at 65536", palette, api.Color{}, 65536)
}

// P8.4: each of three samples counts, by each difference there is.
func TestNearestByEachDifference(t *testing.T) {
	for d := range greatest {
		s, further := uint16(d), uint16(d+1)
		for _, p := range [][2]api.Color{
			{{R: further}, {R: s}}, {{G: further}, {G: s}}, {{B: further}, {B: s}},
			{{R: further}, {G: s}}, {{G: further}, {B: s}}, {{B: further}, {R: s}},
		} {
			wantNearest(t, fmt.Sprint(p), p[:], api.Color{}, 1)
			wantNearest(t, fmt.Sprint(p, " the other way round"), []api.Color{p[1], p[0]}, api.Color{}, 0)
		}
	}
}

// R4: a palette stays, spare room included.
func TestPaletteStays(t *testing.T) {
	all := probe.Colors(7, 40)
	before := slices.Clone(all)
	for from := 0; from <= 30; from += 3 {
		for _, c := range probe.Colors(8, 50) {
			palette := all[from : from+10]
			wantNearest(t, "of ten", palette, c, plainNearest(before[from:from+10], c))
		}
	}
	wantNearest(t, "of none", all[:0], all[0], -1)
	if !slices.Equal(all, before) {
		t.Error("what was handed in was changed")
	}
}

// R4, R5: a palette isn't kept: what is changed in it between two calls is seen,
// and another one has nothing of it.
func TestPaletteIsNotKept(t *testing.T) {
	palette := []api.Color{{R: 10}, {R: 20}, {R: 30}}
	wantNearest(t, "ahead", palette, api.Color{R: 20}, 1)
	other := []api.Color{{R: 99}, {R: 98}}
	wantNearest(t, "another", other, api.Color{R: 20}, 1)
	palette[0], palette[1] = palette[1], palette[0]
	wantNearest(t, "changed", palette, api.Color{R: 20}, 0)
	clear(palette)
	wantNearest(t, "all noughts", palette, api.Color{R: 20}, 0)
	wantNearest(t, "none", nil, api.Color{R: 20}, -1)
	wantNearest(t, "another again", other, api.Color{R: 20}, 1)
	for seed := range uint32(300) {
		b := probe.Noise(seed, 4)
		palette[0].R, palette[1].G, palette[2].B = uint16(b[0]), uint16(b[1]), uint16(b[2])
		c := api.Color{R: uint16(b[3])}
		wantNearest(t, fmt.Sprint(palette), palette, c, plainNearest(palette, c))
		fresh := []api.Color{{R: 100}, {R: uint16(b[0])}, {R: 200}}
		wantNearest(t, fmt.Sprint(fresh), fresh, c, plainNearest(fresh, c))
	}
}
