package raster

import (
	"darkroom/api"
	"darkroom/grid"
)

// Grid answers an image as a grid of its pixels.
func Grid(m api.Image) (*grid.Grid[api.Color], api.Errno) {
	if !Good(m) {
		return nil, api.ErrImage
	}
	cells := make([]api.Color, 0, m.W*m.H)
	for c := range pixels(m) {
		cells = append(cells, c)
	}
	return grid.Of(m.W, m.H, cells)
}

// Of answers a grid of pixels as an image.
func Of(g *grid.Grid[api.Color]) (api.Image, api.Errno) {
	if g == nil {
		return api.Image{}, api.ErrNil
	}
	pix := make([]uint16, 0, samples*g.W()*g.H())
	for _, c := range g.All() {
		pix = append(pix, c.R, c.G, c.B, c.A)
	}
	return api.Image{W: g.W(), H: g.H(), Pix: pix}, api.OK
}
