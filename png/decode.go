package png

import (
	"slices"

	"darkroom/api"
	"darkroom/bits"
	"darkroom/chunk"
	"darkroom/grid"
	"darkroom/inflate"
	"darkroom/raster"
	"darkroom/sizes"
)

// Decode answers the image of a file, of at most so many pixels.
func Decode(b []byte, most int) (api.Image, api.Errno) {
	if len(b) > api.MaxFile {
		return api.Image{}, api.ErrLimit
	}
	cs, e := chunk.Split(b)
	if e != api.OK {
		return api.Image{}, e
	}
	p, e := pictureOf(cs)
	if e != api.OK {
		return api.Image{}, e
	}
	if sizes.TooGreat(p.width, p.height, most) {
		return api.Image{}, api.ErrLimit
	}
	return p.image()
}

// image answers the image that the packed pixels are.
func (p *picture) image() (api.Image, api.Errno) {
	filtered, ok := p.unpacked()
	if !ok {
		return api.Image{}, api.ErrMalformed
	}
	// It isn't too great.
	g, _ := grid.New[api.Color](p.width, p.height)
	for _, pass := range p.passes() {
		n := p.filteredLength(pass)
		if !p.draw(g, pass, filtered[:n]) {
			return api.Image{}, api.ErrMalformed
		}
		filtered = filtered[n:]
	}
	return raster.Of(g)
}

// unpacked answers the filtered rows of all passes, and whether they are just
// these.
func (p *picture) unpacked() ([]byte, bool) {
	whole := 0
	for _, pass := range p.passes() {
		whole += p.filteredLength(pass)
	}
	rows, e := inflate.Zlib(p.packed, whole)
	return rows, e == api.OK && len(rows) == whole
}

// filteredLength answers how many bytes the filtered rows of a pass are.
func (h head) filteredLength(s api.Pass) int { return s.H * (1 + h.rowLength(s.W)) }

// draw sets the pixels that a pass's filtered rows are, and tells whether they are
// such.
func (h head) draw(g *grid.Grid[api.Color], s api.Pass, filtered []byte) bool {
	length := h.rowLength(s.W)
	b, e := chunk.Unfilter(filtered, length, h.rowLength(1))
	if e != api.OK {
		return false
	}
	y := s.Y
	for row := range slices.Chunk(b, length) {
		x := s.X
		for _, samples := range h.samples(row, s.W) {
			c, ok := h.colours.pixel(samples, h.top())
			if !ok {
				return false
			}
			g.Set(x, y, c)
			x += s.DX
		}
		y += s.DY
	}
	return true
}

// samples answers those of each of the pixels that a row begins with.
func (h head) samples(row []byte, pixels int) [][]int {
	r := bits.NewReader(row, true)
	list := make([]int, pixels*h.colours.planes())
	for i := range list {
		v, _ := r.Take(h.depth)
		list[i] = int(v)
	}
	return slices.Collect(slices.Chunk(list, h.colours.planes()))
}
