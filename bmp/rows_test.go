package bmp_test

import (
	"slices"
	"testing"

	"darkroom/api"
	"darkroom/probe"
)

// P11.1: the document's examples.
func TestDecodeExamples(t *testing.T) {
	one := file{second: 40, width: 1, height: 1, depth: 24, pixels: []byte{1, 2, 3, 0}}
	if n := len(one.bytes()); n != 58 {
		t.Error(n)
	}
	wantImage(t, one.bytes(), plenty, probe.Solid(1, 1, 771, 514, 257))
	runs := file{second: 40, width: 2, height: 2, depth: 8, packing: 1, count: 2, palette: []uint32{0, 0xFFFFFF}, pixels: []byte{2, 1, 0, 0, 2, 0, 0, 1}}
	wantImage(t, runs.bytes(), plenty, probe.Greys(2, 2, 0, 0, greatest, greatest))
}

// P11.1: files told byte by byte: rows from the bottom up or from the top down,
// pixels from the left.
func TestDecodeKnown(t *testing.T) {
	two := []uint32{0x000000, 0xFFFFFF}
	three := []uint32{0x0000FF, 0x00FF00, 0xFF0000}
	const w = greatest
	for _, x := range []struct {
		f    file
		want api.Image
	}{
		{file{40, 3, 2, 1, 0, 2, nil, two, []byte{0x80, 0, 0, 0, 0x7F, 0, 0, 0}}, probe.Greys(3, 2, 0, w, w, w, 0, 0)},
		{file{40, 3, -2, 1, 0, 0, nil, two, []byte{0x80, 0, 0, 0, 0x7F, 0, 0, 0}}, probe.Greys(3, 2, w, 0, 0, 0, w, w)},
		{file{40, 3, 1, 4, 0, 3, nil, three, []byte{0x01, 0x2F, 0, 0}}, probe.Solid(3, 1, 0, 0, w, 0, w, 0, w, 0, 0)},
		{file{108, 1, 3, 8, 0, 3, nil, three, []byte{0, 9, 9, 9, 1, 9, 9, 9, 2, 9, 9, 9}}, probe.Solid(1, 3, w, 0, 0, 0, w, 0, 0, 0, w)},
		{file{124, 1, -3, 8, 0, 3, nil, three, []byte{0, 9, 9, 9, 1, 9, 9, 9, 2, 9, 9, 9}}, probe.Solid(1, 3, 0, 0, w, 0, w, 0, w, 0, 0)},
		{file{40, 2, 1, 16, 0, 0, nil, nil, []byte{0x1F, 0, 0xE0, 0x83}}, probe.Solid(2, 1, 0, 0, w, 0, w, 0)},
		{file{52, 1, 2, 24, 0, 0, nil, nil, []byte{255, 0, 0, 7, 0, 255, 0, 7}}, probe.Solid(1, 2, 0, w, 0, 0, 0, w)},
		{file{56, 2, -1, 24, 0, 0, nil, nil, []byte{255, 0, 0, 0, 0, 255, 7, 7}}, probe.Solid(2, 1, 0, 0, w, w, 0, 0)},
		{file{40, 2, 1, 32, 0, 0, nil, nil, []byte{255, 0, 0, 0, 0, 0, 255, 9}}, probe.Solid(2, 1, 0, 0, w, w, 0, 0)},
		{file{40, 2, 1, 16, 3, 0, []uint32{0xF800, 0x7E0, 0x1F}, nil, []byte{0x1F, 0, 0x21, 8}}, probe.Solid(2, 1, 0, 0, w, 2114, 1040, 2114)},
		{file{40, 1, 1, 32, 6, 0, []uint32{0xFF, 0xFF00, 0xFF0000, 0xFF000000}, nil, []byte{1, 2, 3, 4}}, api.Image{W: 1, H: 1, Pix: []uint16{257, 514, 771, 1028}}},
		{file{40, 5, 2, 8, 1, 3, nil, three, []byte{3, 1, 0, 0, 0, 3, 2, 1, 2, 0, 0, 1}}, probe.Solid(5, 2, w, 0, 0, 0, w, 0, w, 0, 0, 0, 0, w, 0, 0, w, 0, w, 0, 0, w, 0, 0, w, 0, 0, 0, w, 0, 0, w)},
		{file{40, 4, 1, 4, 2, 3, nil, three, []byte{3, 0x12, 0, 1}}, probe.Solid(4, 1, 0, w, 0, w, 0, 0, 0, w, 0, 0, 0, w)},
	} {
		wantImage(t, x.f.bytes(), plenty, x.want)
	}
}

// P11.1: each width that ends a row otherwise, of each depth, the padding whatever
// it is.
func TestPadding(t *testing.T) {
	for _, depth := range mayPack(0) {
		for w := 1; w <= 67; w++ {
			const h = 3
			noise := probe.Noise(uint32(w*depth), w*h*4)
			var numbers []int
			for i := range w * h {
				v := int(noise[4*i]) | int(noise[4*i+1])<<8 | int(noise[4*i+2])<<16 | int(noise[4*i+3])<<24
				numbers = append(numbers, v&(1<<depth-1))
			}
			f := file{second: 40, width: w, height: h, depth: depth}
			if depth <= 8 {
				f.palette = greyRamp(1 << depth)
			}
			var want api.Image
			for i, padding := range []byte{0, 255, 0x5A} {
				f.pixels = padded(packedRows(numbers, w, depth), padding)
				b := f.bytes()
				if i == 0 {
					want, _ = plainDecode(b, plenty)
				}
				// A byte's bits behind a row's last pixel are padding, too.
				if left := w * depth % 8; left != 0 {
					length := len(f.pixels) / h
					for y := range h {
						k := len(b) - len(f.pixels) + y*length + w*depth/8
						b[k] |= padding & (255 >> left)
					}
				}
				wantImage(t, b, plenty, want)
				wantImage(t, with(b, atHeight, 4, -h), plenty, flipped(want))
			}
		}
	}
}

// P11.1: all rows are there, the last one's padding, too.
func TestRowsAreThere(t *testing.T) {
	for _, depth := range mayPack(0) {
		for _, w := range []int{1, 2, 3, 4, 5, 8, 9, 31, 32, 33} {
			for _, h := range []int{1, 2, 3, -1, -2} {
				f := file{second: 40, width: w, height: h, depth: depth}
				if depth <= 8 {
					f.palette = greyRamp(1 << depth)
				}
				length := (w*depth + 31) / 32 * 4
				f.pixels = make([]byte, length*max(h, -h))
				b := f.bytes()
				wantAsTold(t, b, plenty)
				wantImage(t, append(slices.Clone(b), 255), plenty, probe.Greys(w, max(h, -h), make([]uint16, w*max(h, -h))...))
				for less := 1; less <= min(len(f.pixels), 9); less++ {
					wantMalformed(t, b[:len(b)-less])
				}
				wantMalformed(t, b[:len(b)-len(f.pixels)])
			}
		}
	}
}

// P11.1: the pixels begin at their place, wherever in the file it is: ahead of the
// head's end, behind it, just so that they end with the file; but not where they
// don't end in it, nor behind its end.
func TestPixelsPlace(t *testing.T) {
	for _, second := range seconds() {
		f := file{second: second, width: 1, height: 1, depth: 24, pixels: probe.Noise(uint32(second), 60)}
		b := f.bytes()
		for place := range len(b) + 20 {
			b := with(b, atPlace, 4, place)
			if place > len(b)-4 {
				wantMalformed(t, b)
				wantMalformed(t, b[:14+second])
				continue
			}
			wantImage(t, b, plenty, probe.Solid(1, 1, 257*uint16(b[place+2]), 257*uint16(b[place+1]), 257*uint16(b[place])))
			wantImage(t, b[:max(place+4, 14+second)], plenty, probe.Solid(1, 1, 257*uint16(b[place+2]), 257*uint16(b[place+1]), 257*uint16(b[place])))
		}
		for _, place := range wrongs() {
			if place > len(b) {
				wantMalformed(t, with(b, atPlace, 4, place))
			}
		}
	}
	for _, b := range runFiles() {
		for _, place := range append(wrongs(), len(b), len(b)+1, len(b)-1) {
			wantMalformed(t, with(b, atPlace, 4, place))
		}
	}
}

// P11.1: a place behind the file's end is looked for with the pixels, and thus
// behind a size that is too great.
func TestPlaceGoesLast(t *testing.T) {
	b, _ := dot(40)
	for _, place := range []int{len(b), len(b) + 1, 1<<32 - 1} {
		far := with(b, atPlace, 4, place)
		wantMalformed(t, far)
		wantFault(t, far, 0, api.ErrLimit)
		wantFault(t, with(far, atWidth, 4, 4097), plenty, api.ErrLimit)
		wantFault(t, with(far, atPacking, 4, 4), plenty, api.ErrUnsupported)
	}
}

// P11.1: of each depth, packing and order images of all sizes that may be.
func TestDecodeSizes(t *testing.T) {
	t.Parallel()
	for i, s := range probe.Sizes() {
		if s.W*s.H > 5000 && i%2 == 0 {
			continue
		}
		for _, depth := range mayPack(0) {
			f := file{second: 40, width: s.W, height: s.H, depth: depth, pixels: probe.Noise(uint32(i), (s.W*depth+31)/32*4*s.H)}
			if depth <= 8 {
				f.palette = greyRamp(1 << depth)
			}
			if e := wantAsTold(t, f.bytes(), plenty); e != api.OK {
				t.Fatal(s, depth, e)
			}
		}
	}
}
