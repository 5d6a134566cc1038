// Package sizes knows how wide and high grids and images may be, and which parts
// lie within them.
package sizes

import (
	"darkroom/api"
)

// MayBe tells whether a grid, or an image, may have this size.
func MayBe(w, h int) bool {
	// The sides go first: a product of any two numbers might wrap round.
	return sideMayBe(w) && sideMayBe(h) && w*h <= api.MaxPixels
}

// TooGreat tells of a width and a height, neither below 1, whether an image that
// may have so many pixels can't have them.
func TooGreat(w, h, most int) bool { return !MayBe(w, h) || w*h > most }

func sideMayBe(n int) bool { return n >= 1 && n <= api.MaxSide }

// Holds tells whether what is w wide and h high, neither below nought, has such a
// part.
func Holds(w, h int, r api.Rect) bool {
	// With r's W and H above nought these differences can't wrap round; sums might.
	return r.W >= 1 && r.H >= 1 && r.X >= 0 && r.Y >= 0 && r.X <= w-r.W && r.Y <= h-r.H
}
