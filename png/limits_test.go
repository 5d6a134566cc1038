package png_test

import (
	"math"
	"slices"
	"testing"

	"darkroom/api"
	"darkroom/probe"
)

// P13.1: a file of MaxFile bytes is read, one more is too long, whatever it is.
func TestLongFiles(t *testing.T) {
	good := dot()
	for _, cs := range [][]api.Chunk{good, with(good, 1, api.Chunk{Type: "ABCD"}), with(good, 1, good[0]), {end()}, changed(good, 0, atWidth, 1)} {
		b := bytesOf(cs...)
		m, e := plainDecode(b, plenty)
		long := append(slices.Clone(b), make([]byte, api.MaxFile+2-len(b))...)
		if e == api.OK {
			wantImage(t, long[:api.MaxFile], plenty, m)
		} else {
			wantFault(t, long[:api.MaxFile], plenty, e)
		}
		for _, most := range []int{plenty, 0} {
			wantFault(t, long[:api.MaxFile+1], most, api.ErrLimit)
			wantFault(t, long, most, api.ErrLimit)
		}
	}
	for _, b := range [][]byte{nil, []byte("\x89PNG")} {
		long := append(b, make([]byte, api.MaxFile+1-len(b))...)
		wantFault(t, long[:api.MaxFile], plenty, api.ErrMalformed)
		wantFault(t, long, plenty, api.ErrLimit)
	}
	// A chunk that isn't looked at fills the file up to its very end.
	note := api.Chunk{Type: "tEXt", Data: make([]byte, api.MaxFile-len(bytesOf(good...))-12)}
	b := bytesOf(with(good, 1, note)...)
	if len(b) != api.MaxFile {
		t.Fatal(len(b))
	}
	wantImage(t, b, plenty, dotImage())
	note.Data = append(note.Data, 0)
	wantFault(t, bytesOf(with(good, 1, note)...), plenty, api.ErrLimit)
}

// P13.1: sizes that may be, the greatest ones among them, with as many pixels as
// there may be, and fewer.
func TestMost(t *testing.T) {
	t.Parallel()
	for _, s := range probe.Sizes() {
		for i, colour := range colours() {
			for order := range 2 {
				if s.W*s.H > 10000 && (i+s.H+order)%3 > 0 {
					continue
				}
				of := depths(colour)
				f := noisy(uint32(i), s.W, s.H, of[(s.W+order)%len(of)], colour)
				f.order, f.kinds = order, []int{4, 0}
				b, want := f.bytes(), f.image()
				n := s.W * s.H
				wantImage(t, b, n, want)
				wantImage(t, b, math.MaxInt, want)
				for _, most := range []int{n - 1, 0, -1, -n, math.MinInt} {
					wantFault(t, b, most, api.ErrLimit)
				}
			}
		}
	}
}

// P13.1: sizes that may not be, however many pixels there may be, and whether they
// are there or not.
func TestTooGreat(t *testing.T) {
	t.Parallel()
	for i, s := range []probe.Size{
		{4097, 1}, {1, 4097}, {4096, 17}, {17, 4096}, {257, 256}, {256, 257}, {4096, 4096}, {65536, 1}, {1, 65536}, {4097, 4097},
		{math.MaxInt32, 1}, {1, math.MaxInt32}, {math.MaxInt32, math.MaxInt32}, {1 << 16, 1 << 16}, {1 << 30, 1 << 30}, {1 << 30, 4}, {4, 1 << 30},
	} {
		for k, colour := range colours() {
			for order := range 2 {
				f := small(8, colour)
				if n := s.W * s.H; n < 70000 && (i+k)%5 == 0 {
					f = noisy(1, s.W, s.H, 8, colour)
				}
				f.order = order
				if colour == 3 {
					f.palette = palette(256).Data
				}
				rows := pixels(f.rows())
				f.width, f.height = s.W, s.H
				cs := []api.Chunk{f.head(), rows, end()}
				if colour == 3 {
					cs = with(cs, 1, palette(256))
				}
				b := bytesOf(cs...)
				for _, most := range []int{plenty, 1 << 62, math.MaxInt, 1, 0, -1} {
					wantFault(t, b, most, api.ErrLimit)
				}
			}
		}
	}
}

// P13.1: what is wrong with the chunks goes ahead of a size that is too great, and
// that ahead of what is wrong with the pixels.
func TestOrderOfFaults(t *testing.T) {
	const most = 3
	for _, s := range []probe.Size{{4097, 1}, {1, 4097}, {257, 256}, {4, 1}, {2, 2}, {1 << 30, 1 << 30}} {
		for order := range 2 {
			f := file{width: s.W, height: s.H, depth: 8, colour: 3, order: order}
			for _, data := range [][]byte{nil, {0}, zipped(nil), zipped([]byte{9}), zipped(make([]byte, 9)), zipped([]byte{0, 200, 200, 200, 200})} {
				cs := []api.Chunk{f.head(), palette(2), {Type: "IDAT", Data: data}, end()}
				wantFault(t, bytesOf(cs...), most, api.ErrLimit)
				wantFault(t, bytesOf(slices.Delete(slices.Clone(cs), 1, 2)...), most, api.ErrMalformed)
				wantFault(t, bytesOf(slices.Delete(slices.Clone(cs), 2, 3)...), most, api.ErrMalformed)
				for at := 1; at < 4; at++ {
					wantFault(t, bytesOf(with(cs, at, api.Chunk{Type: "ABCD"})...), most, api.ErrUnsupported)
					wantFault(t, bytesOf(with(cs, at, f.head())...), most, api.ErrMalformed)
				}
				cs[3].Data = []byte{0}
				wantFault(t, bytesOf(cs...), most, api.ErrMalformed)
			}
		}
	}
}
