package bmp

import (
	"slices"
)

// What the byte behind a nought in runs says. A greater one says how many pixels
// stand as they are.
const (
	nextRow = 0
	theEnd  = 1
	jump    = 2
)

// A pen draws runs, from the beginning of the first row on.
type pen struct {
	head
	x, y int // where the next pixel would be
	list []uint32
}

// drawn answers the numbers that runs are, and whether they are as they should be.
func (h head) drawn(b []byte) ([]uint32, bool) {
	p := &pen{head: h, list: make([]uint32, h.width*h.height)}
	for len(b) >= 2 {
		length, ok := 2, false
		switch n, v := int(b[0]), int(b[1]); {
		case n > 0:
			ok = p.draw(n, slices.Repeat(b[1:2], n))
		case v == nextRow:
			ok = p.move(-p.x, 1)
		case v == theEnd:
			return p.list, true
		case v == jump:
			length = 4
			ok = len(b) >= length && p.move(int(b[2]), int(b[3]))
		default:
			length += (v*h.depth + 15) / 16 * 2
			ok = len(b) >= length && p.draw(v, b[2:length])
		}
		if !ok {
			return nil, false
		}
		b = b[length:]
	}
	return nil, false
}

// draw draws the n pixels that bytes begin with, and tells whether they lie
// within.
func (p *pen) draw(n int, b []byte) bool {
	if p.y == p.height || n > p.width-p.x {
		return false
	}
	copy(p.list[p.y*p.width+p.x:], p.first(n, b))
	p.x += n
	return true
}

// move goes on by so many pixels and rows, and tells whether a pen may be there:
// within, or right behind a row or all of them.
func (p *pen) move(pixels, rows int) bool {
	p.x += pixels
	p.y += rows
	return p.x <= p.width && p.y <= p.height
}
