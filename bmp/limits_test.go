package bmp_test

import (
	"math"
	"slices"
	"testing"

	"darkroom/api"
	"darkroom/probe"
)

// P11.1: a file of MaxFile bytes is read, one more is too long, whatever it is.
func TestLongFiles(t *testing.T) {
	good, _ := dot(40)
	for _, b := range append(runFiles(), good, nil, []byte("BM"), with(good, atWidth, 4, 0), with(good, atWidth, 4, 9000), with(good, atSecond, 4, 12), with(good, atPacking, 4, 5), with(good, 0, 1, 0)) {
		m, e := plainDecode(b, plenty)
		long := append(slices.Clone(b), make([]byte, api.MaxFile+1-len(b))...)
		if len(b) < 54 {
			e = api.ErrMalformed
		}
		if e == api.OK {
			wantImage(t, long[:api.MaxFile], plenty, m)
		} else {
			wantFault(t, long[:api.MaxFile], plenty, e)
		}
		wantFault(t, long, plenty, api.ErrLimit)
		wantFault(t, long, 0, api.ErrLimit)
		wantFault(t, append(long, 0), plenty, api.ErrLimit)
	}
	// The pixels stand at the very end of the longest file there may be.
	long := append(good, make([]byte, api.MaxFile-len(good)-4)...)
	long = with(append(long, 1, 2, 3, 4), atPlace, 4, api.MaxFile-4)
	wantImage(t, long, plenty, probe.Solid(1, 1, 771, 514, 257))
	wantMalformed(t, with(long, atPlace, 4, api.MaxFile-3))
}

// white answers a file that is the last entry of its palette, or all bits, all over.
func white(w, h, depth int) ([]byte, api.Image) {
	f := file{second: 40, width: w, height: h, depth: depth}
	if depth <= 8 {
		f.palette = greyRamp(1 << depth)
	}
	f.pixels = probe.Alike(255, (w*depth+31)/32*4*h)
	return f.bytes(), probe.Greys(w, h, slices.Repeat([]uint16{greatest}, w*h)...)
}

// P11.1: sizes that may be, the greatest ones among them, with as many pixels as
// there may be, and fewer.
func TestMost(t *testing.T) {
	t.Parallel()
	for _, depth := range mayPack(0) {
		for _, s := range probe.Sizes() {
			b, want := white(s.W, s.H, depth)
			n := s.W * s.H
			for _, order := range []int{1, -1} {
				b := with(b, atHeight, 4, order*s.H)
				for _, most := range []int{n, n + 1, math.MaxInt} {
					wantImage(t, b, most, want)
				}
				for _, most := range []int{n - 1, 0, -1, -n, math.MinInt} {
					wantFault(t, b, most, api.ErrLimit)
				}
			}
		}
	}
}

// P11.1: sizes that may not be, however many pixels there may be, and whether they
// are there or not.
func TestTooGreat(t *testing.T) {
	for _, s := range []probe.Size{
		{4097, 1}, {1, 4097}, {4096, 17}, {17, 4096}, {257, 256}, {256, 257}, {4096, 4096}, {65536, 1}, {1, 65536}, {4097, 4097},
		{math.MaxInt32, 1}, {1, math.MaxInt32}, {math.MaxInt32, math.MaxInt32}, {1 << 16, 1 << 16}, {1 << 30, 1 << 30}, {1 << 30, 4}, {4, 1 << 30},
	} {
		for _, depth := range mayPack(0) {
			b, _ := white(1, 1, depth)
			if n := s.W * s.H; n > 0 && n < 70000 {
				b, _ = white(s.W, s.H, depth)
			}
			b = with(b, atWidth, 4, s.W)
			for _, h := range []int{s.H, -s.H} {
				for _, most := range []int{plenty, 1 << 62, math.MaxInt, 1, 0, -1} {
					wantFault(t, with(b, atHeight, 4, h), most, api.ErrLimit)
				}
			}
		}
	}
	b, _ := white(1, 1, 24)
	for _, most := range []int{plenty, math.MaxInt, 0} {
		wantFault(t, with(b, atHeight, 4, math.MinInt32), most, api.ErrLimit)
		wantFault(t, with(b, atHeight, 4, math.MinInt32+1), most, api.ErrLimit)
	}
}

// P11.1: palette and masks that may not be go ahead of a size that is too great,
// and that ahead of pixels that may not be, or aren't there.
func TestOrderOfFaults(t *testing.T) {
	const most = 3
	great := []probe.Size{{4097, 1}, {1, 4097}, {257, 256}, {4, 1}, {2, 2}}
	for _, s := range great {
		for _, depth := range mayPack(0) {
			b, _ := white(1, 1, depth)
			b = with(with(b, atWidth, 4, s.W), atHeight, 4, s.H)
			wantFault(t, b, most, api.ErrLimit)
			wantFault(t, b[:len(b)-4], most, api.ErrLimit)
			wantFault(t, with(b, atPlace, 4, len(b)), most, api.ErrLimit)
			if depth <= 8 {
				wantFault(t, b[:len(b)-5], most, api.ErrMalformed)
				wantFault(t, with(b, atCount, 4, 1<<depth+1), most, api.ErrMalformed)
				wantFault(t, with(b, atCount, 4, 1), most, api.ErrLimit)
			}
		}
		for _, depth := range []int{16, 32} {
			for _, packing := range []int{3, 6} {
				f := file{second: 40, width: s.W, height: s.H, depth: depth, packing: packing, masks: []uint32{1, 2, 4, 8}}
				b := f.bytes()
				wantFault(t, b, most, api.ErrLimit)
				wantFault(t, b[:53+4*(3+packing/6)], most, api.ErrMalformed)
				for k := range 3 + packing/6 {
					wantFault(t, with(b, atMasks+4*k, 4, 5), most, api.ErrMalformed)
				}
			}
		}
		for _, runs := range []string{"", "\x00", "\xFF\x00", "\x00\x02\xFF\xFF", "\x01\x09\x00\x01"} {
			f := file{second: 40, width: s.W, height: s.H, depth: 8, packing: 1, count: 2, palette: greyRamp(2), pixels: []byte(runs)}
			wantFault(t, f.bytes(), most, api.ErrLimit)
			wantFault(t, with(f.bytes(), atCount, 4, 300), most, api.ErrMalformed)
		}
	}
}
