package grid

import (
	"darkroom/api"
)

// Crop answers a part of g.
func (g *Grid[T]) Crop(x, y, w, h int) (*Grid[T], api.Errno) {
	if g == nil {
		return nil, api.ErrNil
	}
	if !g.holds(x, y, w, h) {
		return nil, api.ErrRange
	}
	cells := make([]T, 0, w*h)
	for row := range h {
		cells = append(cells, g.run(x, y+row, w)...)
	}
	return &Grid[T]{w, h, cells}, api.OK
}

// Paste sets the part of g whose first place is (x, y) to p's cells.
func (g *Grid[T]) Paste(x, y int, p *Grid[T]) api.Errno {
	if g == nil || p == nil {
		return api.ErrNil
	}
	if !g.holds(x, y, p.w, p.h) {
		return api.ErrRange
	}
	for row := range p.h {
		copy(g.run(x, y+row, p.w), p.run(0, row, p.w))
	}
	return api.OK
}
