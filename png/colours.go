package png

import (
	"slices"

	"darkroom/api"
	"darkroom/tones"
)

const (
	solid     = 65535 // the alpha where none is told
	byteTop   = 255   // the greatest number that is a byte
	byteDepth = 8
)

// A colouring tells what the samples of a pixel stand for: a colour of the
// document, with what chunks add to it.
type colouring interface {
	// allows tells whether samples may have so many bits.
	allows(depth int) bool
	// planes answers how many samples a pixel has.
	planes() int
	// pixel answers what a pixel's samples stand for, if the greatest that may be
	// is top, and whether they stand for anything.
	pixel(samples []int, top int) (api.Color, bool)
}

// A direct colouring is one whose samples are a pixel's own.
type direct interface {
	colouring
	// samples answers those of a pixel.
	samples(c api.Color) []uint16
}

type (
	grey struct {
		clear []int // the sample of which the alpha is nought, if there is one
	}
	rgb struct {
		clear []int // the three samples of which it is
	}
	byPalette struct {
		palette []api.Color
	}
	greyAlpha struct{}
	rgbAlpha  struct{}
)

// colouringOf answers the colour by its number, with nothing added to it, and
// whether there is one.
func colouringOf(colour int) (colouring, bool) {
	if colour == 3 {
		return byPalette{}, true
	}
	return directOf(colour)
}

// directOf does so of the colours that are direct.
func directOf(colour int) (direct, bool) {
	switch colour {
	case 0:
		return grey{}, true
	case 2:
		return rgb{}, true
	case 4:
		return greyAlpha{}, true
	case 6:
		return rgbAlpha{}, true
	}
	return nil, false
}

func (grey) allows(depth int) bool      { return isPart(depth) || isWhole(depth) }
func (rgb) allows(depth int) bool       { return isWhole(depth) }
func (byPalette) allows(depth int) bool { return isPart(depth) || depth == byteDepth }
func (greyAlpha) allows(depth int) bool { return isWhole(depth) }
func (rgbAlpha) allows(depth int) bool  { return isWhole(depth) }

// isPart tells whether samples of so many bits share a byte.
func isPart(depth int) bool { return depth == 1 || depth == 2 || depth == 4 }

// isWhole tells whether they are whole bytes.
func isWhole(depth int) bool { return depth == byteDepth || depth == 2*byteDepth }

func (grey) planes() int      { return 1 }
func (rgb) planes() int       { return 3 }
func (byPalette) planes() int { return 1 }
func (greyAlpha) planes() int { return 2 }
func (rgbAlpha) planes() int  { return 4 }

func (g grey) pixel(s []int, top int) (api.Color, bool) {
	return greyOf(up(s[0], top), alphaBut(g.clear, s)), true
}

func (g rgb) pixel(s []int, top int) (api.Color, bool) {
	return api.Color{R: up(s[0], top), G: up(s[1], top), B: up(s[2], top), A: alphaBut(g.clear, s)}, true
}

func (p byPalette) pixel(s []int, _ int) (api.Color, bool) {
	if s[0] >= len(p.palette) {
		return api.Color{}, false
	}
	return p.palette[s[0]], true
}

func (greyAlpha) pixel(s []int, top int) (api.Color, bool) {
	return greyOf(up(s[0], top), up(s[1], top)), true
}

func (rgbAlpha) pixel(s []int, top int) (api.Color, bool) {
	return api.Color{R: up(s[0], top), G: up(s[1], top), B: up(s[2], top), A: up(s[3], top)}, true
}

func greyOf(v, alpha uint16) api.Color { return api.Color{R: v, G: v, B: v, A: alpha} }

// up answers the sample of an image that one of a file, from 0 to top, is.
func up(v, top int) uint16 {
	s, _ := tones.Up(v, top)
	return s
}

// alphaBut answers the alpha of a pixel of such samples, where the key is clear.
func alphaBut(key, samples []int) uint16 {
	if slices.Equal(samples, key) {
		return 0
	}
	return solid
}

func (grey) samples(c api.Color) []uint16      { return []uint16{tones.Luma(c)} }
func (rgb) samples(c api.Color) []uint16       { return []uint16{c.R, c.G, c.B} }
func (greyAlpha) samples(c api.Color) []uint16 { return []uint16{tones.Luma(c), c.A} }
func (rgbAlpha) samples(c api.Color) []uint16  { return []uint16{c.R, c.G, c.B, c.A} }
