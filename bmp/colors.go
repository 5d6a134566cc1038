package bmp

import (
	mathbits "math/bits"

	"darkroom/api"
	"darkroom/tones"
)

// colors answers the colour that a pixel's number stands for, and whether there
// is one.
type colors func(number uint32) (api.Color, bool)

// colors reads masks or a palette, and tells whether they are as they should be.
func (f fields) colors(h head) (colors, bool) {
	if h.hasPalette() {
		p := f.palette(h)
		return func(number uint32) (api.Color, bool) {
			if int(number) >= len(p) {
				return api.Color{}, false
			}
			return p[number], true
		}, f.whole()
	}
	m, ok := f.masks(h)
	return func(number uint32) (api.Color, bool) { return m.color(number), true }, ok
}

// palette reads a palette.
func (f fields) palette(h head) []api.Color {
	list := make([]api.Color, h.count)
	for i := range list {
		// The byte that isn't looked at stands where alpha might.
		list[i] = ofBytes().color(uint32(f.number(h.end()+4*i, 4)))
	}
	return list
}

// masks tell which bits of a number are red, green, blue and alpha, in this order.
type masks [4]uint32

const (
	ofAlpha = 3     // the place of alpha's mask
	solid   = 65535 // the alpha where none is told
)

// ofBytes are the masks of a byte each, the lowest one blue, without alpha.
func ofBytes() masks { return masks{0xFF0000, 0xFF00, 0xFF} }

// ofFives are the masks of five bits each, the lowest ones blue, without alpha.
func ofFives() masks { return masks{0x7C00, 0x3E0, 0x1F} }

// masks answers the masks that the pixels of a head without a palette have, and
// tells whether they may be.
func (f fields) masks(h head) (masks, bool) {
	if h.packing == plain {
		if h.depth == 16 {
			return ofFives(), true
		}
		return ofBytes(), true
	}
	if h.packing == alphaMasked && h.second == noAlphaHead {
		return masks{}, false
	}
	var m masks
	for i := range m {
		if i < ofAlpha || h.packing == alphaMasked || h.second > noAlphaHead {
			m[i] = uint32(f.number(masksAt+4*i, 4))
		}
	}
	return m, f.whole() && m.mayBe(h.depth)
}

// mayBe tells whether there may be such masks of numbers of so many bits.
func (m masks) mayBe(depth int) bool {
	// A mask for 65535 has so many bits.
	const most = 16
	var ahead uint32
	for i, mask := range m {
		n := mathbits.OnesCount32(mask)
		if n > most || n == 0 && i != ofAlpha || mathbits.Len32(mask) > depth {
			return false
		}
		// The lowest bit added to bits side by side leaves none of them.
		if mask&ahead != 0 || mask&(mask+mask&-mask) != 0 {
			return false
		}
		ahead |= mask
	}
	return true
}

// color answers the colour that a number is by masks that may be.
func (m masks) color(number uint32) api.Color {
	return api.Color{R: sample(number, m[0]), G: sample(number, m[1]), B: sample(number, m[2]), A: sample(number, m[ofAlpha])}
}

// sample answers the sample that a mask's bits of a number are. Alpha's mask may
// have none.
func sample(number, mask uint32) uint16 {
	if mask == 0 {
		return solid
	}
	low := mathbits.TrailingZeros32(mask)
	// A mask that may be is from 1 to 65535, brought down to the lowest bit.
	s, _ := tones.Up(int(number&mask>>low), int(mask>>low))
	return s
}

// number answers the number that a colour is by masks that may be.
func (m masks) number(c api.Color) uint32 {
	var all uint32
	for i, s := range [...]uint16{c.R, c.G, c.B, c.A} {
		low := mathbits.TrailingZeros32(m[i])
		// Without bits Down refuses, and answers nought.
		v, _ := tones.Down(s, int(m[i]>>low))
		all |= uint32(v) << low
	}
	return all
}
