package sizes_test

import (
	"testing"

	"darkroom/api"
	"darkroom/probe"
	"darkroom/sizes"
)

// Sizes that may be, and such that may not.
func TestMayBe(t *testing.T) {
	for _, s := range probe.Sizes() {
		if !sizes.MayBe(s.W, s.H) {
			t.Error(s)
		}
	}
	for _, s := range probe.WrongSizes() {
		if sizes.MayBe(s.W, s.H) {
			t.Error(s)
		}
	}
	for _, n := range probe.Far() {
		for _, k := range append(probe.Far(), -1, 0, 1, api.MaxSide) {
			if sizes.MayBe(n, k) || sizes.MayBe(k, n) {
				t.Error(n, k)
			}
		}
	}
}

// Each width, with the greatest height that goes with it and one more.
func TestMayBeOfEachWidth(t *testing.T) {
	for w := 1; w <= api.MaxSide; w++ {
		most := min(api.MaxPixels/w, api.MaxSide)
		if !sizes.MayBe(w, most) || sizes.MayBe(w, most+1) || !sizes.MayBe(most, w) || sizes.MayBe(most+1, w) {
			t.Error(w, most)
		}
	}
}

// Sizes of an image that may be, with just as many pixels as there may be, more
// and fewer, and none at all; and sizes of which no number of pixels is enough.
func TestTooGreat(t *testing.T) {
	numbers := append(probe.Far(), -1, 0, api.MaxPixels-1, api.MaxPixels+1)
	for _, s := range probe.Sizes() {
		n := s.W * s.H
		for _, most := range append(numbers, n-1, n, n+1) {
			if want := most < n; sizes.TooGreat(s.W, s.H, most) != want {
				t.Error(s, most, want)
			}
		}
	}
	for _, s := range probe.WrongSizes() {
		if s.W < 1 || s.H < 1 {
			continue
		}
		for _, most := range append(numbers, s.W*s.H, s.W*s.H+1) {
			if !sizes.TooGreat(s.W, s.H, most) {
				t.Error(s, most)
			}
		}
	}
}

// Parts within, over each edge, of no width or height, and far ones.
func TestHolds(t *testing.T) {
	numbers := append(probe.Far(), -3, -2, -1, 0, 1, 2, 3, 4, 5, 6)
	for _, s := range []probe.Size{{1, 1}, {4, 1}, {1, 3}, {4, 3}} {
		for _, p := range probe.Around(s) {
			for _, w := range numbers {
				for _, h := range numbers {
					// A part that is wider and higher than all is as little within.
					part := probe.Size{W: min(w, 9), H: min(h, 9)}
					want := w >= 1 && h >= 1 && probe.Lies(s, part, p.X, p.Y)
					if sizes.Holds(s.W, s.H, api.Rect{X: p.X, Y: p.Y, W: w, H: h}) != want {
						t.Fatalf("Holds(%v, %v by %d, %d); want %v", s, p, w, h, want)
					}
				}
			}
		}
	}
}

// What has no size has no parts.
func TestHoldsOfNothing(t *testing.T) {
	for _, n := range []int{-2, -1, 0, 1, 2} {
		for _, p := range probe.Around(probe.Size{W: 1, H: 1}) {
			r := api.Rect{X: p.X, Y: p.Y, W: n, H: n}
			if sizes.Holds(0, 0, r) || sizes.Holds(0, 5, r) || sizes.Holds(5, 0, r) {
				t.Error(r)
			}
		}
	}
}
