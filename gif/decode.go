package gif

import (
	"slices"

	"darkroom/api"
	"darkroom/lzw"
	"darkroom/quant"
	"darkroom/raster"
	"darkroom/sizes"
)

// Decode answers the image that a file's first picture makes, of at most so many
// pixels.
func Decode(b []byte, most int) (m api.Image, e api.Errno) {
	if len(b) > api.MaxFile {
		return api.Image{}, api.ErrLimit
	}
	defer func() {
		// Nothing but the file's faults is caught: any other value would be a fault
		// of this package, and isn't to pass for one of b.
		if fault := recover(); fault != nil {
			m, e = api.Image{}, fault.(api.Errno)
		}
	}()
	s := newStream(b)
	on := s.screen()
	if sizes.TooGreat(on.width, on.height, most) {
		return api.Image{}, api.ErrLimit
	}
	hole := s.untilPicture()
	return s.image(on, hole)
}

// A screen is what a picture is shown on.
type screen struct {
	width, height int
	palette       []api.Color // of pictures that have none of their own
}

func (s *stream) screen() screen {
	begin := string(s.bytes(len(mark)))
	must(begin == mark || begin == olderMark)
	on := screen{width: s.number(2), height: s.number(2)}
	must(on.width >= 1 && on.height >= 1)
	flags := s.number(1)
	// What colour is behind the picture, and how wide a pixel is, isn't looked at.
	s.bytes(2)
	on.palette = s.palette(flags)
	return on
}

// untilPicture goes behind the byte that a picture begins with, and answers its
// clear index.
func (s *stream) untilPicture() int {
	hole := noHole
	for begin := s.number(1); begin != pictureBlock; begin = s.number(1) {
		must(begin == extraBlock)
		hole = s.extra(hole)
	}
	return hole
}

// extra reads an extra block, and answers the clear index behind it, if ahead of it
// there was this one.
func (s *stream) extra(hole int) int {
	kind := s.number(1)
	blocks := slices.Collect(s.blocks())
	if kind != controlKind {
		return hole
	}
	must(len(blocks) > 0 && len(blocks[0]) == controlSize)
	if blocks[0][0]&hasHole == 0 {
		return noHole
	}
	return int(blocks[0][holeAt])
}

// image reads a picture with this clear index, and answers the screen with it.
func (s *stream) image(on screen, hole int) (api.Image, api.Errno) {
	place := api.Rect{X: s.number(2), Y: s.number(2), W: s.number(2), H: s.number(2)}
	must(sizes.Holds(on.width, on.height, place))
	flags := s.number(1)
	palette := on.palette
	if flags&hasPalette != 0 {
		palette = s.palette(flags)
	}
	if hole != noHole {
		must(hole < len(palette))
		palette[hole] = api.Color{}
	}
	index := inOrder(s.packed(place.W*place.H), place, flags)
	picture, e := quant.Back(api.Paletted{W: place.W, H: place.H, Palette: palette, Index: index})
	must(e == api.OK)
	// The screen isn't too great.
	m, _ := raster.Fill(on.width, on.height, api.Color{})
	return raster.Paste(m, picture, place.X, place.Y)
}

// packed answers just so many bytes that are packed into sub-blocks.
func (s *stream) packed(count int) []byte {
	size := s.number(1)
	var codes []byte
	for block := range s.blocks() {
		codes = append(codes, block...)
	}
	b, e := lzw.GifUnpack(codes, size, count)
	must(e == api.OK && len(b) == count)
	return b
}

// inOrder answers the indices of a picture's pixels row by row from the top.
func inOrder(told []byte, place api.Rect, flags int) []byte {
	list := make([]byte, len(told))
	for _, r := range runs(flags) {
		for y := r.first; y < place.H; y += r.step {
			n := copy(list[y*place.W:], told[:place.W])
			told = told[n:]
		}
	}
	return list
}
