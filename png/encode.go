package png

import (
	"slices"

	"darkroom/api"
	"darkroom/bits"
	"darkroom/chunk"
	"darkroom/deflate"
	"darkroom/raster"
	"darkroom/tones"
)

const (
	filters = 5 // how many kinds there are
	level   = 2 // how hard the rows are packed
)

// Encode answers an image as a file of a colour, its samples of so many bits.
func Encode(m api.Image, colour, depth int) ([]byte, api.Errno) {
	g, e := raster.Grid(m)
	if e != api.OK {
		return nil, e
	}
	c, ok := directOf(colour)
	if !ok || !isWhole(depth) {
		return nil, api.ErrRange
	}
	h := head{width: m.W, height: m.H, depth: depth, colours: c}
	w := bits.NewWriter(true)
	for _, color := range g.Cells() {
		for _, s := range c.samples(color) {
			v, _ := tones.Down(s, h.top())
			w.Put(uint32(v), depth)
		}
	}
	// There is such a level.
	packed, _ := deflate.Zlib(h.filtered(w.Bytes()), level)
	return chunk.Join([]api.Chunk{{Type: headType, Data: h.bytes(colour)}, {Type: dataType, Data: packed}, {Type: endType}})
}

// filtered answers rows, each filtered by the kind that leaves the least to pack.
func (h head) filtered(rows []byte) []byte {
	length := h.rowLength(h.width)
	all := make([][][]byte, filters)
	for kind := range all {
		b, _ := chunk.Filter(rows, length, h.rowLength(1), kind)
		all[kind] = slices.Collect(slices.Chunk(b, 1+length))
	}
	var out []byte
	for y := range h.height {
		// A row is held against the rows as they were: it doesn't matter by which
		// kind the one above is filtered.
		best := all[0][y]
		for _, others := range all[1:] {
			if weight(others[y]) < weight(best) {
				best = others[y]
			}
		}
		out = append(out, best...)
	}
	return out
}

// weight answers how far from nought the bytes of a filtered row are.
func weight(row []byte) int {
	sum := 0
	for _, x := range row[1:] {
		sum += max(int(int8(x)), -int(int8(x)))
	}
	return sum
}
