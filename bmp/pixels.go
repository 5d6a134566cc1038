package bmp

import (
	"slices"

	"darkroom/bits"
)

// numbers answers the numbers of all pixels, in the order in which a file tells
// its rows, and whether they are as they should be.
func (h head) numbers(b []byte) ([]uint32, bool) {
	if h.place > len(b) {
		return nil, false
	}
	b = b[h.place:]
	if h.packing == runsOfEight || h.packing == runsOfFour {
		return h.drawn(b)
	}
	return h.rows(b)
}

// rows answers the numbers that whole rows are, and whether all rows are there.
func (h head) rows(b []byte) ([]uint32, bool) {
	length := h.rowLength()
	whole := length * h.height
	if len(b) < whole {
		return nil, false
	}
	list := make([]uint32, 0, h.width*h.height)
	for row := range slices.Chunk(b[:whole], length) {
		list = append(list, h.first(h.width, row)...)
	}
	return list, true
}

// first answers the numbers of the n pixels that bytes begin with.
func (h head) first(n int, b []byte) []uint32 {
	// Of pixels in a byte the first one is the highest, of a pixel's bytes the lowest.
	r := bits.NewReader(b, h.depth <= 8)
	list := make([]uint32, n)
	for i := range list {
		list[i], _ = r.Take(h.depth)
	}
	return list
}
