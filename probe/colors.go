package probe

import (
	"slices"

	"darkroom/api"
)

// Eight answers the solid colour of three numbers from 0 to 255.
func Eight(r, g, b int) api.Color {
	return api.Color{R: uint16(257 * r), G: uint16(257 * g), B: uint16(257 * b), A: greatest}
}

// Eights answers n solid colours of depth 8, no two of them alike and none near
// the next one.
func Eights(n int) []api.Color {
	var all []api.Color
	for i := range n {
		v := i * 0x9E3779 & 0xFFFFFF
		all = append(all, Eight(v>>16, v>>8&255, v&255))
	}
	return all
}

// Row answers an image of one row, or of rows of so many pixels as an image may
// be wide.
func Row(colors ...api.Color) api.Image {
	w := len(colors)
	for w > api.MaxSide {
		w /= 2
	}
	return ImageOf(w, len(colors)/w, colors)
}

// Coarsen brings an image's colours nearer together, in one way of several, and
// now and then makes its pixels solid or clear.
func Coarsen(m api.Image, how uint32) {
	step := []uint16{1, 257, 700, 9000, 20000, 30000}[how%6]
	for i := range m.Pix {
		if i%4 < 3 {
			m.Pix[i] = m.Pix[i] / step * step
		} else if how%5 == 0 {
			m.Pix[i] |= 32768
		} else if how%31 == 1 {
			m.Pix[i] &= 32767
		}
	}
}

// EightBit is the eight-bit colour of a pixel.
func EightBit(c api.Color) api.Color {
	up := func(s uint16) uint16 { return Up(Down(s, 255), 255) }
	return api.Color{R: up(c.R), G: up(c.G), B: up(c.B), A: greatest}
}

// Met are the eight-bit colours of the pixels that aren't clear, in the order in
// which they are met.
func Met(m api.Image) []api.Color {
	var all []api.Color
	seen := map[api.Color]bool{}
	for _, c := range ColorsOf(m) {
		if c.A >= 32768 && !seen[EightBit(c)] {
			seen[EightBit(c)] = true
			all = append(all, EightBit(c))
		}
	}
	return all
}

// Distance is how far two colours are from one another, squared.
func Distance(a, b api.Color) int {
	r, g, bl := int(a.R)-int(b.R), int(a.G)-int(b.G), int(a.B)-int(b.B)
	return r*r + g*g + bl*bl
}

// Nearest is the place of the first of a palette's nearest colours.
func Nearest(palette []api.Color, c api.Color) int {
	best := slices.MinFunc(palette, func(p, q api.Color) int { return Distance(p, c) - Distance(q, c) })
	return slices.IndexFunc(palette, func(p api.Color) bool { return Distance(p, c) == Distance(best, c) })
}
