package bmp_test

import (
	"fmt"
	"math"
	"slices"
	"testing"

	"darkroom/api"
	"darkroom/probe"
)

// dot is a file of one pixel, and what it is read as.
func dot(second int) ([]byte, api.Image) {
	f := file{second: second, width: 1, height: 1, depth: 24, pixels: []byte{1, 2, 3, 0}}
	return f.bytes(), probe.Solid(1, 1, 771, 514, 257)
}

// wrongs are numbers of four bytes none of which stands in a head by right.
func wrongs() []int {
	return []int{1 << 8, 1 << 16, 1 << 24, 1 << 31, 1<<31 - 1, 1<<32 - 1, 1<<32 - 2, 0xFFFF, 0x10001}
}

// P11.1: bytes that a file doesn't begin with.
func TestMark(t *testing.T) {
	b, want := dot(40)
	wantImage(t, b, plenty, want)
	for c := range 256 {
		if c != 'B' {
			wantMalformed(t, with(b, 0, 1, c))
		}
		if c != 'M' {
			wantMalformed(t, with(b, 1, 1, c))
		}
	}
	wantMalformed(t, with(b, 0, 2, 'M'|'B'<<8))
	// The mark goes ahead of the second head's size.
	wantMalformed(t, with(with(b, 0, 1, 'C'), atSecond, 4, 12))
	wantMalformed(t, with(with(b, 1, 1, 'm'), atSecond, 4, 64))
}

// P11.1: files of fewer than 18 bytes, of good ones, of such as aren't supported,
// and of nothing in particular.
func TestFewerThanEighteen(t *testing.T) {
	b, _ := dot(40)
	for n := range 18 {
		wantMalformed(t, b[:n])
		wantMalformed(t, with(b, atSecond, 4, 12)[:n])
		wantMalformed(t, probe.Noise(uint32(n), n))
		wantMalformed(t, make([]byte, n))
	}
	wantFault(t, with(b, atSecond, 4, 12)[:18], plenty, api.ErrUnsupported)
}

// P11.1: sizes of the second head: five may be, three are of other kinds, and all
// others are none. The bytes behind the size aren't looked at ahead of it.
func TestSecondHead(t *testing.T) {
	for _, n := range slices.Concat(count(0, 400), wrongs(), []int{40 << 8, 12 << 24, 40 | 1<<31, 12 | 1<<16}) {
		b, want := dot(40)
		b = append(with(b, atSecond, 4, n)[:54], slices.Repeat([]byte{9}, 500)...)
		for _, whole := range [][]byte{b, b[:18], b[:20], slices.Concat(b[:18], make([]byte, 500))} {
			switch {
			case slices.Contains([]int{12, 16, 64}, n):
				wantFault(t, whole, plenty, api.ErrUnsupported)
			case !slices.Contains(seconds(), n):
				wantMalformed(t, whole)
			}
		}
		if slices.Contains(seconds(), n) {
			copy(b[300:], []byte{1, 2, 3, 0})
			wantImage(t, with(b, atPlace, 4, 300), plenty, want)
		}
	}
}

// count answers the numbers from one on, up to another one.
func count(from, to int) []int {
	var list []int
	for i := from; i <= to; i++ {
		list = append(list, i)
	}
	return list
}

// P11.1: the head is all there, even where its last bytes aren't looked at and the
// pixels stand ahead of its end.
func TestHeadIsAllThere(t *testing.T) {
	for _, second := range seconds() {
		b, _ := dot(second)
		b = with(b, atPlace, 4, 34)
		want := probe.Solid(1, 1, 0, 0, 0)
		wantImage(t, b[:14+second], plenty, want)
		for n := 18; n < 14+second; n++ {
			wantMalformed(t, b[:n])
			// It goes ahead of all fields, also of such as aren't supported.
			wantMalformed(t, with(b, atPacking, 4, 4)[:n])
			wantFault(t, b[:n], 0, api.ErrMalformed)
		}
	}
}

// P11.1: a width is 1 or more, a height isn't 0.
func TestWidthAndHeight(t *testing.T) {
	for _, second := range seconds() {
		b, want := dot(second)
		for _, n := range []int{0, -1, -2, -4096, math.MinInt32, math.MinInt32 + 1} {
			wantMalformed(t, with(b, atWidth, 4, n))
			wantFault(t, with(b, atWidth, 4, n), 0, api.ErrMalformed)
		}
		wantMalformed(t, with(b, atHeight, 4, 0))
		wantFault(t, with(b, atHeight, 4, 0), 0, api.ErrMalformed)
		wantMalformed(t, with(with(b, atHeight, 4, 0), atPacking, 4, 4))
		wantMalformed(t, with(with(b, atWidth, 4, 0), atPacking, 4, 5))
		wantImage(t, with(b, atHeight, 4, -1), plenty, want)
		for _, n := range []int{2, -2, 4096, -4096} {
			wantMalformed(t, with(b, atHeight, 4, n))
		}
	}
}

// P11.1: there is one plane.
func TestPlanes(t *testing.T) {
	b, want := dot(40)
	for n := range 1 << 16 {
		if n == 1 {
			wantImage(t, with(b, atPlanes, 2, n), plenty, want)
		} else {
			wantMalformed(t, with(b, atPlanes, 2, n))
		}
	}
	wantMalformed(t, with(with(b, atPlanes, 2, 2), atPacking, 4, 4))
	wantFault(t, with(b, atPlanes, 2, 2), 0, api.ErrMalformed)
}

// mayPack says which depths go with a way to pack.
func mayPack(packing int) []int {
	switch packing {
	case 0:
		return []int{1, 4, 8, 16, 24, 32}
	case 1:
		return []int{8}
	case 2:
		return []int{4}
	case 3, 6:
		return []int{16, 32}
	}
	return nil
}

// P11.1: each depth with each way to pack, from the bottom up and from the top
// down: what fits is read, what doesn't is malformed, and of any depth that may be
// 4 and 5 aren't supported.
func TestDepthAndPacking(t *testing.T) {
	for _, packing := range append(count(0, 20), wrongs()...) {
		for depth := range 300 {
			f := file{second: 56, width: 1, height: 1, depth: depth, packing: packing}
			if depth >= 16 {
				f.masks = []uint32{1, 2, 4, 8}
			} else {
				f.palette = greyRamp(256)
			}
			f.pixels = []byte{0, 1, 0, 0}
			for _, height := range []int{1, -1} {
				b := with(with(f.bytes(), atDepth, 2, depth), atHeight, 4, height)
				fits := slices.Contains(mayPack(packing), depth) && (height == 1 || packing != 1 && packing != 2)
				_, e := plainDecode(b, plenty)
				switch {
				case fits && e != api.OK:
					t.Fatal(packing, depth, height, e)
				case fits:
					wantAsTold(t, b, plenty)
				case slices.Contains(mayPack(0), depth) && (packing == 4 || packing == 5):
					wantFault(t, b, plenty, api.ErrUnsupported)
					wantFault(t, b, 0, api.ErrUnsupported)
				default:
					wantMalformed(t, b)
					wantFault(t, b, 0, api.ErrMalformed)
				}
			}
		}
	}
	b, _ := dot(40)
	for depth := 300; depth < 1<<16; depth++ {
		wantMalformed(t, with(b, atDepth, 2, depth))
	}
}

// P11.1: that a way to pack isn't supported goes ahead of a palette, of masks and
// of pixels that may not be, and of a size that is too great, and behind all else.
func TestUnsupportedGoesBefore(t *testing.T) {
	for _, packing := range []int{4, 5} {
		for _, depth := range mayPack(0) {
			f := file{second: 40, width: 5000, height: 5000, depth: depth, packing: packing, count: 257, masks: []uint32{5, 5, 5}}
			b := f.bytes()
			wantFault(t, b, plenty, api.ErrUnsupported)
			wantFault(t, b[:54], plenty, api.ErrUnsupported)
			wantFault(t, with(b, atPlace, 4, 1<<30), plenty, api.ErrUnsupported)
			wantFault(t, with(b, atHeight, 4, -5000), plenty, api.ErrUnsupported)
			wantMalformed(t, with(b, atWidth, 4, 0))
			wantMalformed(t, with(b, atHeight, 4, 0))
			wantMalformed(t, with(b, atPlanes, 2, 0))
			wantMalformed(t, with(b, atDepth, 2, 0))
			wantMalformed(t, b[:53])
		}
	}
}

// P11.1: what the chapter doesn't speak of isn't looked at.
func TestNotLookedAt(t *testing.T) {
	looked := slices.Concat(count(0, 1), count(10, 33), count(46, 49))
	for i, b := range smallFiles() {
		end := 14 + int(b[atSecond])
		want, _ := plainDecode(b, plenty)
		changed := slices.Clone(b)
		for k, x := range probe.Noise(uint32(i), end) {
			masked := b[atPacking] == 3 || b[atPacking] == 6
			if !slices.Contains(looked, k) && (!masked || k < atMasks || k >= atMasks+16) {
				changed[k] = x
			}
		}
		wantImage(t, changed, plenty, want)
	}
}

// P11.1: a file without a palette has no count.
func TestCountWithoutPalette(t *testing.T) {
	for _, second := range seconds() {
		for _, depth := range []int{16, 24, 32} {
			for _, n := range append(wrongs(), 0, 1, 2, 17, 256, 257) {
				f := file{second: second, width: 1, height: 1, depth: depth, count: n, pixels: []byte{0, 0, 0, 0}}
				wantImage(t, f.bytes(), plenty, probe.Greys(1, 1, 0))
			}
		}
	}
}

// P11.1: each beginning of a file that is shorter than itself is malformed.
func TestEndsTooEarly(t *testing.T) {
	for _, b := range smallFiles() {
		for n := range b {
			wantMalformed(t, b[:n])
		}
		want, _ := plainDecode(b, plenty)
		for _, behind := range []string{"\x00", "\x01", "BM", fmt.Sprint(b)} {
			wantImage(t, append(slices.Clone(b), behind...), plenty, want)
		}
	}
}
