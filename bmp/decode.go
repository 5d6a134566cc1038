package bmp

import (
	"slices"

	"darkroom/api"
	"darkroom/grid"
	"darkroom/raster"
	"darkroom/sizes"
)

// Decode answers the image of a file, of at most so many pixels.
func Decode(b []byte, most int) (api.Image, api.Errno) {
	if len(b) > api.MaxFile {
		return api.Image{}, api.ErrLimit
	}
	f := fieldsOf(b)
	h, e := f.head()
	if e != api.OK {
		return api.Image{}, e
	}
	c, ok := f.colors(h)
	if !ok {
		return api.Image{}, api.ErrMalformed
	}
	if sizes.TooGreat(h.width, h.height, most) {
		return api.Image{}, api.ErrLimit
	}
	list, ok := h.numbers(b)
	if !ok {
		return api.Image{}, api.ErrMalformed
	}
	return h.image(list, c)
}

// image answers the image of which these are the pixels' numbers.
func (h head) image(numbers []uint32, c colors) (api.Image, api.Errno) {
	rows := slices.Collect(slices.Chunk(numbers, h.width))
	if !h.down {
		slices.Reverse(rows)
	}
	cells := make([]api.Color, 0, len(numbers))
	for _, n := range slices.Concat(rows...) {
		color, ok := c(n)
		if !ok {
			return api.Image{}, api.ErrMalformed
		}
		cells = append(cells, color)
	}
	g, e := grid.Of(h.width, h.height, cells)
	if e != api.OK {
		return api.Image{}, e
	}
	return raster.Of(g)
}
