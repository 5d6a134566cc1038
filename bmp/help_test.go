package bmp_test

import (
	"encoding/binary"
	"slices"
	"testing"

	"darkroom/api"
	"darkroom/bmp"
	"darkroom/probe"
)

const (
	greatest = 65535
	// plenty is as many pixels as an image may have.
	plenty = api.MaxPixels
)

// Where the numbers of a head stand.
const (
	atPlace, atSecond, atWidth, atHeight, atPlanes = 10, 14, 18, 22, 26
	atDepth, atPacking, atCount, atMasks           = 28, 30, 46, 54
)

// seconds are the sizes that a second head may have.
func seconds() []int { return []int{40, 52, 56, 108, 124} }

// A file tells what stands in one.
type file struct {
	second, width, height, depth, packing, count int
	masks                                        []uint32
	palette                                      []uint32
	pixels                                       []byte
}

// bytes puts a file together: each part right behind the one ahead of it.
func (f file) bytes() []byte {
	b := make([]byte, max(14+f.second, atMasks+4*len(f.masks)))
	copy(b, "BM")
	put := binary.LittleEndian.PutUint32
	put(b[atSecond:], uint32(f.second))
	put(b[atWidth:], uint32(f.width))
	put(b[atHeight:], uint32(f.height))
	b[atPlanes] = 1
	b[atDepth] = byte(f.depth)
	put(b[atPacking:], uint32(f.packing))
	put(b[atCount:], uint32(f.count))
	for i, m := range f.masks {
		put(b[atMasks+4*i:], m)
	}
	for _, x := range f.palette {
		b = binary.LittleEndian.AppendUint32(b, x)
	}
	put(b[atPlace:], uint32(len(b)))
	return append(b, f.pixels...)
}

// with answers a file with a number in it changed: the lowest byte stands first.
func with(b []byte, at, size, v int) []byte {
	b = slices.Clone(b)
	for i := range size {
		b[at+i] = byte(v >> (8 * i))
	}
	return b
}

// grey answers an entry of a palette, with something in the byte that isn't looked
// at.
func grey(v int) uint32 { return uint32(v)*0x10101 | 0xA5000000 }

// greyRamp answers n entries, no two alike, the first one black.
func greyRamp(n int) []uint32 {
	var list []uint32
	for i := range n {
		list = append(list, grey(i*255/max(n-1, 1)))
	}
	return list
}

// ramp answers the greys that indices of greyRamp stand for.
func ramp(w, h, n int, indices ...int) api.Image {
	var list []uint16
	for _, i := range indices {
		list = append(list, probe.Up(i*255/max(n-1, 1), 255))
	}
	return probe.Greys(w, h, list...)
}

// padded answers rows of bytes one behind the other, each in a multiple of four
// bytes, with this in the padding.
func padded(rows [][]byte, padding byte) []byte {
	var b []byte
	for _, row := range rows {
		b = append(b, row...)
		for len(b)%4 != 0 {
			b = append(b, padding)
		}
	}
	return b
}

// packed answers the bytes of a row of numbers of so many bits.
func packed(numbers []int, depth int) []byte {
	var b []byte
	if depth > 8 {
		for _, v := range numbers {
			for i := range depth / 8 {
				b = append(b, byte(v>>(8*i)))
			}
		}
		return b
	}
	for part := range slices.Chunk(numbers, 8/depth) {
		v := 0
		for i := range 8 / depth {
			v <<= depth
			if i < len(part) {
				v |= part[i]
			}
		}
		b = append(b, byte(v))
	}
	return b
}

// packedRows answers the rows of numbers, in the order in which they are told.
func packedRows(numbers []int, width, depth int) [][]byte {
	var rows [][]byte
	for row := range slices.Chunk(numbers, width) {
		rows = append(rows, packed(row, depth))
	}
	return rows
}

// flipped answers an image with its rows the other way round.
func flipped(m api.Image) api.Image {
	rows := slices.Collect(slices.Chunk(m.Pix, 4*m.W))
	slices.Reverse(rows)
	return api.Image{W: m.W, H: m.H, Pix: slices.Concat(rows...)}
}

// wantImage wants an image out of a file.
func wantImage(t *testing.T, b []byte, most int, want api.Image) {
	m, e := bmp.Decode(b, most)
	if s := probe.Other(m, e, want, api.OK); s != "" {
		t.Helper()
		t.Fatalf("Decode(%s, %d) = %s", told(b), most, s)
	}
}

// wantFault wants an error of a file, and nothing beside it.
func wantFault(t *testing.T, b []byte, most int, want api.Errno) {
	m, e := bmp.Decode(b, most)
	if s := probe.Other(m, e, api.Image{}, want); s != "" {
		t.Helper()
		t.Fatalf("Decode(%s, %d) = %s", told(b), most, s)
	}
}

// wantMalformed wants that of a file.
func wantMalformed(t *testing.T, b []byte) {
	t.Helper()
	wantFault(t, b, plenty, api.ErrMalformed)
}

// told tells a file, its head apart.
func told(b []byte) string {
	n := min(len(b), 54)
	return probe.Short(b[:n]) + " " + probe.Short(b[n:])
}
