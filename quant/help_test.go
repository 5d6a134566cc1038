package quant_test

import (
	"slices"
	"strconv"
	"testing"

	"darkroom/api"
	"darkroom/probe"
	"darkroom/quant"
)

const (
	greatest = 65535
	// plenty is as many colours as a palette may have.
	plenty = 256
)

// The colours that tests speak of most.
var (
	black = api.Color{A: greatest}
	white = api.Color{R: greatest, G: greatest, B: greatest, A: greatest}
	red   = api.Color{R: greatest, A: greatest}
	blue  = api.Color{B: greatest, A: greatest}
	hole  = api.Color{}
)

// grey answers the solid grey of a number from 0 to 255.
func grey(v int) api.Color { return probe.Eight(v, v, v) }

// plainIndex are the places of a palette's colours that stand for an image's
// pixels.
func plainIndex(m api.Image, palette []api.Color) []byte {
	var list []byte
	for _, c := range probe.ColorsOf(m) {
		place := probe.Nearest(palette, probe.EightBit(c))
		clear := slices.IndexFunc(palette, func(p api.Color) bool { return p.A == 0 })
		if c.A < 32768 && clear >= 0 {
			place = clear
		}
		list = append(list, byte(place))
	}
	return list
}

// samples answers colours as numbers.
func samples(list []api.Color) []uint16 { return probe.ImageOf(len(list), 1, list).Pix }

// told tells colours, but not all of many.
func told(list []api.Color) string { return probe.Told(probe.ImageOf(len(list), 1, list)) }

// toldPaletted tells an image by a palette.
func toldPaletted(p api.Paletted) string {
	return strconv.Itoa(p.W) + " by " + strconv.Itoa(p.H) + ", of " + told(p.Palette) + ": " + probe.Short(p.Index)
}

// wantPalette wants these colours.
func wantPalette(t *testing.T, m api.Image, most int, want []api.Color) {
	t.Helper()
	if p, e := quant.Palette(m, most); e != api.OK || !slices.Equal(p, want) {
		t.Fatalf("Palette(%s, %d) = %s, %d; want %s", probe.Told(m), most, told(p), e, told(want))
	}
}

// wantNoPalette wants an error, and nothing beside it.
func wantNoPalette(t *testing.T, m api.Image, most int, want api.Errno) {
	t.Helper()
	if p, e := quant.Palette(m, most); e != want || len(p) != 0 {
		t.Fatalf("Palette(%s, %d) = %s, %d; want %d", probe.Told(m), most, told(p), e, want)
	}
}

// wantIndex wants these places, and the palette as it was.
func wantIndex(t *testing.T, m api.Image, palette []api.Color, want []byte) {
	t.Helper()
	p, e := quant.Apply(m, palette)
	if e != api.OK || p.W != m.W || p.H != m.H || !slices.Equal(p.Palette, palette) || !slices.Equal(p.Index, want) {
		t.Fatalf("Apply(%s, %s) = %s, %d; want %s", probe.Told(m), told(palette), toldPaletted(p), e, probe.Short(want))
	}
}

// wantNoIndex wants an error, and nothing beside it.
func wantNoIndex(t *testing.T, m api.Image, palette []api.Color, want api.Errno) {
	t.Helper()
	p, e := quant.Apply(m, palette)
	if e != want || p.W != 0 || p.H != 0 || len(p.Palette) != 0 || len(p.Index) != 0 {
		t.Fatalf("Apply(%s, %s) = %s, %d; want %d", probe.Told(m), told(palette), toldPaletted(p), e, want)
	}
}

// wantBack wants this image.
func wantBack(t *testing.T, p api.Paletted, want api.Image) {
	t.Helper()
	m, e := quant.Back(p)
	if s := probe.Other(m, e, want, api.OK); s != "" {
		t.Fatalf("Back(%s) = %s", toldPaletted(p), s)
	}
}

// wantNotBack wants an error, and nothing beside it.
func wantNotBack(t *testing.T, p api.Paletted, want api.Errno) {
	t.Helper()
	m, e := quant.Back(p)
	if s := probe.Other(m, e, api.Image{}, want); s != "" {
		t.Fatalf("Back(%s) = %s", toldPaletted(p), s)
	}
}
