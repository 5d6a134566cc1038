package probe

import (
	"darkroom/api"
)

// Colors answers n colours that look like none in particular, the same each time
// for one seed.
func Colors(seed uint32, n int) []api.Color {
	b := Noise(seed, 8*n)
	list := make([]api.Color, n)
	for i := range list {
		s := func(k int) uint16 { return uint16(b[8*i+k])<<8 | uint16(b[8*i+k+1]) }
		list[i] = api.Color{R: s(0), G: s(2), B: s(4), A: s(6)}
	}
	return list
}

// Image answers an image of such colours.
func Image(seed uint32, w, h int) api.Image { return ImageOf(w, h, Colors(seed, w*h)) }

// ImageOf answers an image of these colours, row by row.
func ImageOf(w, h int, colors []api.Color) api.Image {
	m := api.Image{W: w, H: h}
	for _, c := range colors {
		m.Pix = append(m.Pix, c.R, c.G, c.B, c.A)
	}
	return m
}
