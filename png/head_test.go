package png_test

import (
	"math"
	"slices"
	"testing"

	"darkroom/api"
	"darkroom/probe"
)

// changed answers chunks with the byte at a place of one's data another one.
func changed(cs []api.Chunk, i, at int, x byte) []api.Chunk {
	cs = slices.Clone(cs)
	cs[i].Data = slices.Clone(cs[i].Data)
	cs[i].Data[at] = x
	return cs
}

// P13.1: files told byte by byte.
func TestKnown(t *testing.T) {
	b := []byte{
		137, 80, 78, 71, 13, 10, 26, 10,
		0, 0, 0, 13, 'I', 'H', 'D', 'R', 0, 0, 0, 1, 0, 0, 0, 1, 8, 0, 0, 0, 0, 0x3A, 0x7E, 0x9B, 0x55,
		0, 0, 0, 13, 'I', 'D', 'A', 'T', 0x78, 0x01, 1, 2, 0, 253, 255, 0, 128, 0, 0x82, 0, 0x81, 0xC3, 0x6E, 0x25, 0xE0,
		0, 0, 0, 0, 'I', 'E', 'N', 'D', 0xAE, 0x42, 0x60, 0x82,
	}
	wantImage(t, b, 1, dotImage())
	wantImage(t, bytesOf(with(dot(), 1, clearing(0, 128))...), 1, probe.ImageOf(1, 1, []api.Color{{R: 32896, G: 32896, B: 32896}}))
}

// P13.1: what isn't split isn't read.
func TestNoChunks(t *testing.T) {
	b := bytesOf(dot()...)
	for n := range b {
		for _, most := range []int{plenty, 0} {
			wantFault(t, b[:n], most, api.ErrMalformed)
		}
		for _, x := range []byte{1, 32, 128} {
			c := slices.Clone(b)
			c[n] ^= x
			wantFault(t, c, plenty, api.ErrMalformed)
		}
	}
	for _, behind := range []string{"\x00", "\x89PNG", string(b)} {
		wantImage(t, append(slices.Clone(b), behind...), 1, dotImage())
	}
	wantFault(t, bytesOf(dot()[:2]...), plenty, api.ErrMalformed)
	// A file that isn't split isn't one of an unsupported chunk.
	wantFault(t, bytesOf(with(dot(), 1, api.Chunk{Type: "ABCD"})...)[:60], plenty, api.ErrMalformed)
}

// P13.1: the first chunk is a head, whatever else would stand there, and there is no
// other one.
func TestFirstIsHead(t *testing.T) {
	good := dot()
	for _, typ := range append(types(), "IHDr", "iHDR", "ihdr", "HDRI", "abcd", "ZZZZ") {
		if typ == "IHDR" {
			continue
		}
		other := slices.Clone(good)
		other[0].Type = typ
		wantMalformed(t, other...)
		for _, data := range [][]byte{nil, good[0].Data, good[1].Data} {
			wantMalformed(t, with(good, 0, api.Chunk{Type: typ, Data: data})...)
			wantMalformed(t, append([]api.Chunk{{Type: typ, Data: data}}, good[1:]...)...)
		}
	}
	wantMalformed(t, good[1:]...)
	wantMalformed(t, end())
	for at := 1; at < len(good); at++ {
		for _, data := range [][]byte{nil, good[0].Data, {1, 2, 3}} {
			wantMalformed(t, with(good, at, api.Chunk{Type: "IHDR", Data: data})...)
		}
	}
}

// P13.1: a head has thirteen bytes.
func TestHeadLength(t *testing.T) {
	good := dot()
	data := append(slices.Clone(good[0].Data), make([]byte, 30)...)
	for n := range data {
		cs := slices.Clone(good)
		cs[0].Data = data[:n]
		if n != 13 {
			wantMalformed(t, cs...)
		} else {
			wantImage(t, bytesOf(cs...), 1, dotImage())
		}
	}
}

// P13.1: each colour with each depth: those that may be are read, all others are
// malformed.
func TestColoursAndDepths(t *testing.T) {
	for colour := range 256 {
		for depth := range 256 {
			if slices.Contains(colours(), colour) && slices.Contains(depths(colour), depth) {
				f := noisy(1, 3, 2, depth, colour)
				wantImage(t, f.bytes(), 6, f.image())
				continue
			}
			cs := with(dot(), 1, api.Chunk{Type: "PLTE", Data: make([]byte, 6)})
			if colour == 0 || colour == 4 {
				cs = dot()
			}
			cs = changed(changed(cs, 0, atDepth, byte(depth)), 0, atColour, byte(colour))
			if colour == 0 && depth == 8 {
				t.Fatal("that may be")
			}
			wantFault(t, bytesOf(cs...), plenty, api.ErrMalformed)
		}
	}
}

// P13.1: packing and filtering are nought, the order is nought or one.
func TestHeadsLastBytes(t *testing.T) {
	good := dot()
	for x := 1; x < 256; x++ {
		wantMalformed(t, changed(good, 0, atPacking, byte(x))...)
		wantMalformed(t, changed(good, 0, atFiltering, byte(x))...)
		if x > 1 {
			wantMalformed(t, changed(good, 0, atOrder, byte(x))...)
		} else {
			wantImage(t, bytesOf(changed(good, 0, atOrder, byte(x))...), 1, dotImage())
		}
	}
}

// P13.1: a side is from 1 to 2^31 - 1.
func TestSides(t *testing.T) {
	for _, wrong := range []int{0, 1 << 31, 1<<31 + 1, 1<<32 - 1, 1<<32 - 2} {
		for _, right := range []int{1, 2, math.MaxInt32, wrong} {
			for _, f := range []file{{width: wrong, height: right, depth: 8}, {width: right, height: wrong, depth: 8}} {
				for order := range 2 {
					f.order = order
					wantMalformed(t, with(dot()[1:], 0, f.head())...)
				}
			}
		}
	}
	for _, great := range []int{4097, 1 << 16, 1 << 24, math.MaxInt32 - 1, math.MaxInt32} {
		for _, right := range []int{1, 2, math.MaxInt32, great} {
			for _, f := range []file{{width: great, height: right, depth: 8}, {width: right, height: great, depth: 8}} {
				for order := range 2 {
					f.order = order
					wantFault(t, bytesOf(with(dot()[1:], 0, f.head())...), plenty, api.ErrLimit)
					wantFault(t, bytesOf(with(dot()[1:], 0, f.head())...), math.MaxInt, api.ErrLimit)
				}
			}
		}
	}
	// Each of the four bytes of a side counts, the first one the most.
	for at := range 8 {
		cs := changed(dot(), 0, at, 2)
		switch at {
		case 3, 7:
			wantBroken(t, cs...) // a pixel is missing
		case 2, 6:
			wantFault(t, bytesOf(cs...), 512, api.ErrLimit)
			wantFault(t, bytesOf(cs...), 513, api.ErrMalformed)
		default:
			wantFault(t, bytesOf(cs...), plenty, api.ErrLimit)
		}
	}
}
