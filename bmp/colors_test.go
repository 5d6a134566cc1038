package bmp_test

import (
	"math/bits"
	"testing"

	"darkroom/api"
	"darkroom/probe"
)

// P11.1: an entry is blue, green, red, and a byte that isn't looked at.
func TestPaletteEntries(t *testing.T) {
	for _, depth := range []int{1, 4, 8} {
		for _, fourth := range []uint32{0, 1, 128, 255} {
			f := file{second: 40, width: 2, height: 1, depth: depth, count: 2, palette: []uint32{0x030201 | fourth<<24, 0xFF0080}}
			f.pixels = append(packed([]int{0, 1}, depth), 7, 7, 7)
			wantImage(t, f.bytes(), plenty, probe.Solid(2, 1, 771, 514, 257, greatest, 0, 32896))
		}
	}
	for v := range 256 {
		f := file{second: 40, width: 1, height: 1, depth: 8, count: 1, palette: []uint32{uint32(v) | uint32(255-v)<<8 | uint32(v^85)<<16}, pixels: make([]byte, 4)}
		wantImage(t, f.bytes(), plenty, probe.Solid(1, 1, probe.Up(v^85, 255), probe.Up(255-v, 255), probe.Up(v, 255)))
	}
}

// paletted answers a file of one row of these indices, with a palette of so many
// entries, of which its head tells another number.
func paletted(second, depth, entries, told int, indices ...int) []byte {
	f := file{second: second, width: len(indices), height: 1, depth: depth, count: told, palette: greyRamp(entries)}
	f.pixels = padded(packedRows(indices, len(indices), depth), 0)
	return f.bytes()
}

// P11.1: there are as many entries as the count says, or as the depth allows, if it
// says nought; an index has an entry.
func TestPaletteCount(t *testing.T) {
	for _, depth := range []int{1, 4, 8} {
		all := 1 << depth
		for n := 1; n <= all; n++ {
			for _, second := range seconds() {
				b := paletted(second, depth, n, n, n-1, 0)
				wantImage(t, b, plenty, ramp(2, 1, n, n-1, 0))
				if n < all {
					wantMalformed(t, paletted(second, depth, n, n, 0, n))
					wantMalformed(t, paletted(second, depth, n, n, n, 0))
					wantMalformed(t, paletted(second, depth, n, n, 0, all-1))
					// Entries that are there but not told are none.
					wantMalformed(t, paletted(second, depth, all, n, 0, n))
				}
			}
		}
		wantImage(t, paletted(40, depth, all, 0, all-1, 0), plenty, ramp(2, 1, all, all-1, 0))
		wantImage(t, paletted(108, depth, all, 0, 0, all-1), plenty, ramp(2, 1, all, 0, all-1))
		for _, n := range append(wrongs(), all+1, all+2, 2*all, all+256, all|1<<31) {
			if n > all {
				b := paletted(40, depth, all, n, 0, 0)
				wantMalformed(t, b)
				wantFault(t, b, 1, api.ErrMalformed)
				wantMalformed(t, append(b, make([]byte, 5000)...))
			}
		}
	}
}

// P11.1: each index of each depth.
func TestEachIndex(t *testing.T) {
	for _, depth := range []int{1, 4, 8} {
		n := 1 << depth
		f := file{second: 40, width: 16, height: n, depth: depth}
		var entries []uint32
		var numbers []int
		var list []api.Color
		for i, c := range probe.Colors(uint32(depth), n) {
			entries = append(entries, uint32(c.R>>8)<<16|uint32(c.G>>8)<<8|uint32(c.B>>8))
			for k := range 16 {
				// No two indices stand side by side all over.
				numbers = append(numbers, (i*(2*k+1)+k)%n)
			}
		}
		for _, v := range numbers {
			x := entries[v]
			list = append(list, api.Color{R: probe.Up(int(x>>16), 255), G: probe.Up(int(x>>8&255), 255), B: probe.Up(int(x&255), 255), A: greatest})
		}
		f.palette = entries
		f.pixels = padded(packedRows(numbers, 16, depth), 0)
		want := probe.ImageOf(16, n, list)
		wantImage(t, f.bytes(), plenty, flipped(want))
		wantImage(t, with(f.bytes(), atHeight, 4, -n), plenty, want)
	}
}

// P11.1: the palette stands right behind the head, all of it there, wherever the
// pixels are.
func TestPalettePlace(t *testing.T) {
	for _, second := range seconds() {
		for _, depth := range []int{1, 4, 8} {
			for _, n := range []int{1, 2, 1 << depth} {
				f := file{second: second, width: 1, height: 1, depth: depth, count: n, palette: greyRamp(n)}
				b := with(f.bytes(), atPlace, 4, 6) // four noughts
				wantImage(t, b, plenty, probe.Greys(1, 1, 0))
				for less := 1; less <= 4*n; less++ {
					wantMalformed(t, b[:len(b)-less])
					wantFault(t, b[:len(b)-less], 0, api.ErrMalformed)
				}
				for _, gap := range []int{1, 2, 3, 4, 100} {
					// Bytes between palette and pixels aren't looked at.
					far := append(with(b, atPlace, 4, len(b)+gap), probe.Alike(255, gap)...)
					wantImage(t, append(far, 0, 9, 9, 9), plenty, probe.Greys(1, 1, 0))
				}
			}
		}
	}
}

// masked answers a file of one pixel with masks.
func masked(second, depth, packing int, number uint32, masks ...uint32) []byte {
	f := file{second: second, width: 1, height: 1, depth: depth, packing: packing, masks: masks}
	f.pixels = []byte{byte(number), byte(number >> 8), byte(number >> 16), byte(number >> 24)}
	return f.bytes()
}

// P11.1: where the masks stand, and which of them there are, by the second head's
// size and how the file is packed.
func TestMaskPlaces(t *testing.T) {
	const number = 0x9ABC
	masks := []uint32{0xF, 0xF00, 0xF0, 0xF000}
	with3 := probe.Solid(1, 1, probe.Up(12, 15), probe.Up(10, 15), probe.Up(11, 15))
	with4 := api.Image{W: 1, H: 1, Pix: []uint16{probe.Up(12, 15), probe.Up(10, 15), probe.Up(11, 15), probe.Up(9, 15)}}
	for _, depth := range []int{16, 32} {
		for _, second := range []int{56, 108, 124} {
			wantImage(t, masked(second, depth, 3, number, masks...), plenty, with4)
			wantImage(t, masked(second, depth, 6, number, masks...), plenty, with4)
			wantImage(t, masked(second, depth, 3, number, 0xF, 0xF00, 0xF0, 0), plenty, with3)
			wantImage(t, masked(second, depth, 6, number, 0xF, 0xF00, 0xF0, 0), plenty, with3)
			// The mask of alpha is looked at, whether the file is packed by it or not.
			wantMalformed(t, masked(second, depth, 3, number, 0xF, 0xF00, 0xF0, 0xF00))
			wantMalformed(t, masked(second, depth, 3, number, 0xF, 0xF00, 0xF0, 0x5000))
		}
		wantImage(t, masked(40, depth, 3, number, masks[:3]...), plenty, with3)
		wantImage(t, masked(40, depth, 3, number, masks...), plenty, with3)
		wantImage(t, masked(40, depth, 3, number, 0xF, 0xF00, 0xF0, 0xF), plenty, with3)
		wantImage(t, masked(40, depth, 6, number, masks...), plenty, with4)
		wantImage(t, masked(52, depth, 3, number, masks[:3]...), plenty, with3)
		wantImage(t, masked(52, depth, 3, number, masks...), plenty, with3)
		wantImage(t, masked(52, depth, 3, number, 0xF, 0xF00, 0xF0, 0xF), plenty, with3)
		wantMalformed(t, masked(52, depth, 6, number, masks...))
		wantFault(t, masked(52, depth, 6, number, masks...), 0, api.ErrMalformed)
		for _, packing := range []int{3, 6} {
			// Behind a short head the masks may not be there.
			end := 54 + 4*(3+packing/6)
			b := with(masked(40, depth, packing, number, masks...), atPlace, 4, 34)
			wantImage(t, with(b, 34, 2, number)[:end], plenty, map[int]api.Image{3: with3, 6: with4}[packing])
			for n := 54; n < end; n++ {
				wantMalformed(t, b[:n])
				wantFault(t, b[:n], 0, api.ErrMalformed)
			}
		}
	}
}

// P11.1: each mask of sixteen bits as red's, green's, blue's and alpha's.
func TestEachMask(t *testing.T) {
	t.Parallel()
	others := [4]uint32{1 << 20, 1 << 22, 1 << 24, 1 << 26}
	for k := range 4 {
		for mask := range uint32(1 << 16) {
			masks := others
			masks[k] = mask
			from, n := bits.TrailingZeros32(mask), bits.OnesCount32(mask)
			side := mask == 0 && k == 3 || mask != 0 && mask == (1<<n-1)<<from
			b := masked(56, 32, 6, mask, masks[:]...)
			if !side {
				wantMalformed(t, b)
				continue
			}
			c := [4]uint16{}
			c[k] = greatest
			if k != 3 {
				wantImage(t, b, plenty, api.Image{W: 1, H: 1, Pix: c[:]})
			} else {
				wantImage(t, b, plenty, api.Image{W: 1, H: 1, Pix: []uint16{0, 0, 0, greatest}})
			}
		}
	}
}

// P11.1: masks at the edges: of sixteen bits and of more, at the highest bit, and at
// depth 16 above it.
func TestMaskEdges(t *testing.T) {
	for k := range 4 {
		for from := range 32 {
			for n := 1; n <= 32-from; n++ {
				mask := uint32((1<<n - 1) << from)
				var masks [4]uint32
				free := uint32(1)
				for i := range masks {
					for free&mask != 0 && free != 0 {
						free <<= 1
					}
					if masks[i] = free; i == k {
						masks[i] = mask
						continue
					}
					free <<= 1
				}
				for _, depth := range []int{16, 32} {
					for _, packing := range []int{3, 6} {
						for _, second := range []int{40, 56} {
							wantAsTold(t, masked(second, depth, packing, 0xDEADBEEF, masks[:]...), plenty)
						}
					}
				}
			}
		}
	}
	wantImage(t, masked(40, 32, 3, 0x00018000, 0xFFFF0000, 0x8000, 0x7FFF), plenty, probe.Solid(1, 1, 1, greatest, 0))
	wantMalformed(t, masked(40, 32, 3, 0, 0xFFFF8000, 0x4000, 0x3FFF))
	wantMalformed(t, masked(40, 32, 3, 0, 0x1FFFF, 0x20000, 0x40000))
	wantImage(t, masked(40, 16, 3, 0x8000, 0x8000, 1, 2), plenty, probe.Solid(1, 1, greatest, 0, 0))
	wantMalformed(t, masked(40, 16, 3, 0x8000, 0x10000, 1, 2))
	wantMalformed(t, masked(40, 16, 3, 0x8000, 0x18000, 1, 2))
	wantMalformed(t, masked(40, 16, 3, 0x8000, 1, 2, 0x80000000))
	wantMalformed(t, masked(56, 16, 3, 0x8000, 1, 2, 4, 0x10000))
	wantMalformed(t, masked(40, 32, 3, 0, 0, 0, 0))
}

// P11.1: no bit is in two masks, whichever two.
func TestMasksApart(t *testing.T) {
	for i := range 4 {
		for k := range 4 {
			for _, both := range []uint32{0x1, 0x10, 0x8000} {
				masks := [4]uint32{0x2, 0x20, 0x200, 0x2000}
				masks[i], masks[k] = both, both
				for _, packing := range []int{3, 6} {
					b := masked(108, 16, packing, 0, masks[:]...)
					if i == k {
						wantAsTold(t, b, plenty)
					} else {
						wantMalformed(t, b)
					}
				}
			}
		}
	}
	wantMalformed(t, masked(40, 16, 3, 0, 0xF, 0x18, 0x20))
	wantMalformed(t, masked(40, 16, 3, 0, 0xF0, 0x3F00, 0x20))
}

// P11.1: each sample of masks of each width.
func TestMaskedSamples(t *testing.T) {
	t.Parallel()
	for n := 1; n <= 16; n++ {
		top := 1<<n - 1
		w := min(top+1, 256)
		h := (top + 1) / w
		for _, packing := range []int{3, 6} {
			f := file{second: 40, width: w, height: -h, depth: 32, packing: packing}
			f.masks = []uint32{uint32(top) << 3, 1, 2, 1 << (n + 3)}[:3+packing/6]
			var list []api.Color
			for v := range w * h {
				number := v<<3 | v&3 | v>>1&1<<(n+3) | 4
				f.pixels = append(f.pixels, byte(number), byte(number>>8), byte(number>>16), byte(number>>24))
				c := api.Color{R: probe.Up(v, top), G: probe.Up(v&1, 1), B: probe.Up(v>>1&1, 1), A: greatest}
				if packing == 6 {
					c.A = probe.Up(v>>1&1, 1)
				}
				list = append(list, c)
			}
			wantImage(t, f.bytes(), plenty, probe.ImageOf(w, h, list))
		}
	}
}

// P11.1: plain, at depth 16: five bits each, the highest bit of none, whatever
// stands where masks would.
func TestPlainSixteen(t *testing.T) {
	for _, second := range seconds() {
		f := file{second: second, width: 256, height: -256, depth: 16}
		if second > 40 {
			f.masks = []uint32{1, 1, 1, 1}
		}
		var list []api.Color
		for v := range 1 << 16 {
			f.pixels = append(f.pixels, byte(v), byte(v>>8))
			list = append(list, api.Color{R: probe.Up(v>>10&31, 31), G: probe.Up(v>>5&31, 31), B: probe.Up(v&31, 31), A: greatest})
		}
		wantImage(t, f.bytes(), plenty, probe.ImageOf(256, 256, list))
	}
}

// P11.1: plain, at depth 24 and 32: a byte each, blue first, the fourth of none.
func TestPlainBytes(t *testing.T) {
	for _, second := range seconds() {
		for _, depth := range []int{24, 32} {
			f := file{second: second, width: 16, height: -16, depth: depth}
			if second > 40 {
				f.masks = []uint32{1, 1, 1, 1}
			}
			var list []uint16
			noise := probe.Noise(uint32(depth), 3*256)
			for v := range 256 {
				b := append(noise[3*v:3*v+3:3*v+3], byte(v))
				b[0] = byte(v)
				f.pixels = append(f.pixels, b[:depth/8]...)
				list = append(list, 257*uint16(b[2]), 257*uint16(b[1]), 257*uint16(b[0]))
			}
			wantImage(t, f.bytes(), plenty, probe.Solid(16, 16, list...))
		}
	}
}
