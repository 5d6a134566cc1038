package tones_test

import (
	"math"
	"slices"
	"testing"

	"darkroom/api"
	"darkroom/tones"
)

// floor divides and rounds down, also below nought.
func floor(n, d int) int {
	q := n / d
	if n%d < 0 {
		q--
	}
	return q
}

// clamped is what the chapter calls so.
func clamped(n int) int {
	if n < 0 {
		return 0
	}
	if n > 255 {
		return 255
	}
	return n
}

// plainUp goes as P8.1 tells it.
func plainUp(v, most int) int { return floor(65535*v+floor(most, 2), most) }

// plainDown goes as P8.1 tells it.
func plainDown(v, most int) int { return floor(v*most+32767, 65535) }

// plainLuma goes as P8.2 tells it.
func plainLuma(c api.Color) uint16 {
	return uint16(floor(19595*int(c.R)+38470*int(c.G)+7471*int(c.B)+32768, 65536))
}

// plainYcc goes as P8.3 tells it.
func plainYcc(c [3]int) [3]int {
	r, g, b := clamped(c[0]), clamped(c[1]), clamped(c[2])
	return [3]int{
		clamped(floor(19595*r+38470*g+7471*b+32768, 65536)),
		clamped(floor(32768*b-11058*r-21710*g+8421376, 65536)),
		clamped(floor(32768*r-27439*g-5329*b+8421376, 65536)),
	}
}

// plainRgb goes as P8.3 tells it.
func plainRgb(c [3]int) [3]int {
	y := clamped(c[0])
	u, v := clamped(c[1])-128, clamped(c[2])-128
	return [3]int{
		clamped(y + floor(91881*v+32768, 65536)),
		clamped(y - floor(22554*u+46802*v+32768, 65536)),
		clamped(y + floor(116130*u+32768, 65536)),
	}
}

// plainNearest looks for the least sum among all, as P8.4 tells it.
func plainNearest(palette []api.Color, c api.Color) int {
	if len(palette) == 0 {
		return -1
	}
	var sums []float64 // such whole numbers are all told exactly
	for _, p := range palette {
		r, g, b := float64(p.R)-float64(c.R), float64(p.G)-float64(c.G), float64(p.B)-float64(c.B)
		sums = append(sums, r*r+g*g+b*b)
	}
	return slices.Index(sums, slices.Min(sums))
}

// far are numbers far from all that a call takes; the lowest bits of some of
// them are what a call takes.
func far() []int {
	return []int{
		math.MinInt, math.MinInt + 1, math.MinInt + 255, math.MinInt / 2, -1 << 48, -1<<32 + 1, -1 << 32, -1<<31 - 1, -1 << 31, -1<<16 + 1, -1 << 16, -65535,
		1 << 17, 1<<17 + 1, 1<<31 - 1, 1 << 31, 1<<31 + 1, 1<<32 - 1, 1 << 32, 1<<32 + 1, 1<<32 + 255, 1 << 47, 1<<48 + 1, 1 << 62, 1<<62 + 128, math.MaxInt - 255, math.MaxInt - 1, math.MaxInt,
	}
}

// mosts are some of those that may be, of all depths and of none.
func mosts() []int {
	var list []int
	for n := 1; n <= 260; n++ {
		list = append(list, n)
	}
	for k := 9; k <= 15; k++ {
		list = append(list, 1<<k-1, 1<<k, 1<<k+1)
	}
	return append(list, 300, 999, 1000, 5000, 9999, 21845, 43690, 50000, 65533, 65534, 65535)
}

// wrongMosts are some of those that may not be.
func wrongMosts() []int { return append(far(), 0, -1, -2, -255, 65536, 65537, 65791, 131071) }

// The helpers below call Helper only where they fail: it's dear, and they are
// called millions of times.

func wantUp(t *testing.T, v, most, want int) {
	if u, e := tones.Up(v, most); int(u) != want || e != api.OK {
		t.Helper()
		t.Fatalf("Up(%d, %d) = %d, %d; want %d", v, most, u, e, want)
	}
}

func wantDown(t *testing.T, v, most, want int) {
	if d, e := tones.Down(uint16(v), most); d != want || e != api.OK {
		t.Helper()
		t.Fatalf("Down(%d, %d) = %d, %d; want %d", v, most, d, e, want)
	}
}

func wantNoUp(t *testing.T, v, most int) {
	if u, e := tones.Up(v, most); u != 0 || e != api.ErrRange {
		t.Helper()
		t.Fatalf("Up(%d, %d) = %d, %d; want ErrRange", v, most, u, e)
	}
}

func wantNoDown(t *testing.T, v uint16, most int) {
	if d, e := tones.Down(v, most); d != 0 || e != api.ErrRange {
		t.Helper()
		t.Fatalf("Down(%d, %d) = %d, %d; want ErrRange", v, most, d, e)
	}
}

func wantLuma(t *testing.T, c api.Color, want uint16) {
	if l := tones.Luma(c); l != want {
		t.Helper()
		t.Fatalf("Luma(%v) = %d; want %d", c, l, want)
	}
}

func wantNearest(t *testing.T, what string, palette []api.Color, c api.Color, want int) {
	if place := tones.Nearest(palette, c); place != want {
		t.Helper()
		t.Fatalf("%s: Nearest to %v = %d; want %d", what, c, place, want)
	}
}
