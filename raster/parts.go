package raster

import (
	"slices"

	"darkroom/api"
	"darkroom/sizes"
)

// Crop answers a part of m.
func Crop(m api.Image, r api.Rect) (api.Image, api.Errno) {
	if !Good(m) {
		return api.Image{}, api.ErrImage
	}
	if !sizes.Holds(m.W, m.H, r) {
		return api.Image{}, api.ErrRange
	}
	pix := make([]uint16, 0, samples*r.W*r.H)
	for y := range r.H {
		pix = append(pix, run(m, r.X, r.Y+y, r.W)...)
	}
	return api.Image{W: r.W, H: r.H, Pix: pix}, api.OK
}

// Paste answers m with p laid over it, p's first pixel at (x, y), as far as p lies
// within m.
func Paste(m, p api.Image, x, y int) (api.Image, api.Errno) {
	if !Good(m) || !Good(p) {
		return api.Image{}, api.ErrImage
	}
	out := api.Image{W: m.W, H: m.H, Pix: slices.Clone(m.Pix)}
	left, right := overlap(x, p.W, m.W)
	top, bottom := overlap(y, p.H, m.H)
	if left >= right {
		return out, api.OK
	}
	for at := top; at < bottom; at++ {
		copy(run(out, left, at, right-left), run(p, left-x, at-y, right-left))
	}
	return out, api.OK
}

// overlap answers which of the n numbers from first on are at least 0 and below
// most: those from one number on, below another one; none, if that isn't greater.
func overlap(first, n, most int) (from, to int) {
	// A sum that wraps round lies below nought, and thus below from.
	return max(first, 0), min(first+n, most)
}
