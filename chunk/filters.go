package chunk

import (
	"slices"

	"darkroom/api"
)

// How great a row, and how far to the left what a byte is held against, may be.
const (
	mostWidth = 1 << 20
	mostBpp   = 8
)

// Kinds of filters, by what a byte is held against.
const (
	byNothing = iota
	byLeft
	byAbove
	byMean
	byNearest
)

// Filter answers rows, each of width bytes, filtered by one kind.
func Filter(rows []byte, width, bpp, kind int) ([]byte, api.Errno) {
	if !mayBe(width, bpp) || kind < byNothing || kind > byNearest || len(rows)%width != 0 {
		return nil, api.ErrArgs
	}
	var out []byte
	above := make([]byte, width)
	for row := range slices.Chunk(rows, width) {
		out = append(out, byte(kind))
		for i, x := range row {
			out = append(out, x-guess(kind, row, above, i, bpp))
		}
		above = row
	}
	return out, api.OK
}

// Unfilter answers the rows of which b is the filtering.
func Unfilter(b []byte, width, bpp int) ([]byte, api.Errno) {
	if !mayBe(width, bpp) {
		return nil, api.ErrArgs
	}
	if len(b)%(1+width) != 0 {
		return nil, api.ErrMalformed
	}
	var out []byte
	above := make([]byte, width)
	for filtered := range slices.Chunk(b, 1+width) {
		kind, row := int(filtered[0]), slices.Clone(filtered[1:])
		if kind > byNearest {
			return nil, api.ErrMalformed
		}
		// A byte is held against none behind it: row may become what it was as it
		// is gone through.
		for i := range row {
			row[i] += guess(kind, row, above, i, bpp)
		}
		out = append(out, row...)
		above = row
	}
	return out, api.OK
}

func mayBe(width, bpp int) bool {
	return width >= 1 && width <= mostWidth && bpp >= 1 && bpp <= mostBpp
}

// guess answers what a filter takes from the byte at i of a row.
func guess(kind int, row, above []byte, i, bpp int) byte {
	var a, c byte
	b := above[i]
	if i >= bpp {
		a, c = row[i-bpp], above[i-bpp]
	}
	switch kind {
	case byLeft:
		return a
	case byAbove:
		return b
	case byMean:
		return byte((int(a) + int(b)) / 2)
	case byNearest:
		return nearest(a, b, c)
	}
	return 0
}

// nearest answers which of three bytes is the nearest to what they lead to.
func nearest(a, b, c byte) byte {
	goal := int(a) + int(b) - int(c)
	best := a
	for _, x := range [...]byte{b, c} {
		// The first one of several that are as near stays.
		if distance(int(x), goal) < distance(int(best), goal) {
			best = x
		}
	}
	return best
}

func distance(a, b int) int { return max(a-b, b-a) }
