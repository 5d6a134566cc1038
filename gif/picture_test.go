package gif_test

import (
	"bytes"
	"slices"
	"testing"

	"darkroom/api"
	"darkroom/lzw"
	"darkroom/probe"
)

// P15.1: a picture lies within the screen, wherever it lies there; where there is
// none the screen is clear.
func TestPlaces(t *testing.T) {
	for _, s := range []probe.Size{{1, 1}, {4, 3}, {3, 4}} {
		for y := range s.H + 2 {
			for x := range s.W + 2 {
				for h := range s.H + 3 {
					for w := range s.W + 3 {
						f := noisy(uint32(x+y), max(w, 1), max(h, 1), 4)
						f.width, f.height, f.place = s.W, s.H, api.Rect{X: x, Y: y, W: w, H: h}
						if f.place == (api.Rect{}) {
							continue
						}
						codes := lzwOf(f.index, 8)
						b := f.with(8, codes)
						if w >= 1 && h >= 1 && probe.Lies(s, probe.Size{W: w, H: h}, x, y) {
							wantImage(t, b, 12, f.image(noHole))
							f.runs = true
							wantImage(t, f.bytes(), 12, f.image(noHole))
						} else {
							wantBroken(t, b)
						}
					}
				}
			}
		}
	}
}

// lzwOf answers bytes packed, whether they may be or not.
func lzwOf(b []byte, size int) []byte {
	codes, e := lzw.GifPack(b, size)
	if e != api.OK {
		panic(e)
	}
	return codes
}

// P15.1: numbers of a place are of two bytes, the lower one first.
func TestFarPlaces(t *testing.T) {
	for _, r := range []api.Rect{{X: 4094, W: 2, H: 3}, {X: 258, Y: 12, W: 300, H: 4}, {X: 255, Y: 1, W: 256, H: 2}, {X: 256, Y: 2, W: 257, H: 1}} {
		f := noisy(1, r.W, r.H, 16)
		f.width, f.height, f.place = 4096, 16, r
		wantImage(t, f.bytes(), plenty, f.image(noHole))
		f = noisy(2, r.H, r.W, 16)
		f.width, f.height, f.place = 16, 4096, api.Rect{X: r.Y, Y: r.X, W: r.H, H: r.W}
		wantImage(t, f.bytes(), plenty, f.image(noHole))
	}
	for _, v := range []int{0, 1, 2, 255, 256, 32767, 32768, 65534, 65535} {
		for k := range 4 {
			place := [4]int{0, 0, 1, 1}
			place[k] = v
			f := file{width: 2, height: 2, palette: ramp(2), place: api.Rect{X: place[0], Y: place[1], W: place[2], H: place[3]}}
			if r := f.place; r.X+r.W <= 2 && r.Y+r.H <= 2 && r.W*r.H > 0 {
				f.index = make([]byte, r.W*r.H)
				wantImage(t, f.bytes(), 4, f.image(noHole))
			} else {
				wantBroken(t, f.with(2, lzwOf([]byte{0}, 2)))
			}
		}
	}
	// Sums of a place and a side that would fit, if they wrapped round.
	for _, r := range []api.Rect{{X: 65535, W: 2, H: 1}, {Y: 65535, W: 1, H: 2}, {X: 65535, Y: 65535, W: 3, H: 3}, {X: 32768, W: 32769, H: 1}} {
		f := file{width: 2, height: 2, palette: ramp(2), place: r}
		wantBroken(t, f.with(2, lzwOf(make([]byte, 9), 2)))
	}
}

// P15.1: rows in four runs, of each height and of several widths; and not in runs.
func TestRuns(t *testing.T) {
	for h := 1; h <= 70; h++ {
		for w := 1; w <= 3; w++ {
			f := noisy(uint32(h), w, h, 256)
			wantImage(t, f.bytes(), w*h, f.image(noHole))
			f.runs = true
			wantImage(t, f.bytes(), w*h, f.image(noHole))
			f.width, f.height, f.place = w+2, h+3, api.Rect{X: 1, Y: 2, W: w, H: h}
			wantImage(t, f.bytes(), plenty, f.image(noHole))
		}
	}
	// Told row by row: seventeen of them, in the order in which they stand.
	order := []byte{0, 8, 16, 4, 12, 2, 6, 10, 14, 1, 3, 5, 7, 9, 11, 13, 15}
	f := file{width: 1, height: 17, palette: ramp(32), index: order}
	b := f.bytes()
	b[atPalette+96+9] |= 64
	f.index = probe.Each()[:17]
	wantImage(t, b, 17, f.image(noHole))
}

// P15.1: the greatest pictures in runs.
func TestGreatRuns(t *testing.T) {
	for i, s := range probe.Sizes() {
		f := noisy(uint32(i), s.W, s.H, 32)
		f.runs = true
		wantImage(t, f.bytes(), plenty, f.image(noHole))
	}
}

// P15.1: codes of each size, with indices that they may have, whatever the palette's
// size is.
func TestCodeSizes(t *testing.T) {
	for size := range 256 {
		for n := 2; n <= 256; n *= 2 {
			f := file{width: 9, height: 5, palette: ramp(n), size: size}
			if size < 2 || size > 8 {
				f.index = make([]byte, 45)
				for _, k := range []int{2, 8} {
					wantBroken(t, f.with(byte(size), lzwOf(f.index, k)))
				}
				wantBroken(t, f.with(byte(size), nil))
				continue
			}
			f.index = probe.Few(uint32(n), 45, min(n, 1<<size))
			wantImage(t, f.bytes(), 45, f.image(noHole))
			f.runs = true
			wantImage(t, f.bytes(), 45, f.image(noHole))
		}
	}
}

// P15.1: codes that are cut into sub-blocks of each length, also of many lengths.
func TestSubBlocks(t *testing.T) {
	f := noisy(1, 50, 40, 256)
	for cut := 1; cut <= 255; cut++ {
		f.cut = cut
		wantImage(t, f.bytes(), 2000, f.image(noHole))
	}
	codes := lzwOf(f.index, 8)
	var b []byte
	for i := 0; len(codes) > 0; i++ {
		n := min(1+i*37%255, len(codes))
		b = append(append(b, byte(n)), codes[:n]...)
		codes = codes[n:]
	}
	wantImage(t, slices.Concat(f.head(), f.start(), []byte{8}, b, []byte{0, 59}), 2000, f.image(noHole))
	// A sub-block without bytes is the last one.
	wantBroken(t, slices.Concat(f.head(), f.start(), []byte{8}, b[:1+b[0]], []byte{0}, b[1+b[0]:], []byte{0, 59}))
	wantBroken(t, slices.Concat(f.head(), f.start(), []byte{8, 0}, b, []byte{0, 59}))
	wantBroken(t, f.with(8, nil))
	// A sub-block's bytes aren't there, or none ends them.
	wantBroken(t, slices.Concat(f.head(), f.start(), []byte{8}, b))
	wantBroken(t, slices.Concat(f.head(), f.start(), []byte{8}, b, []byte{1}))
	wantBroken(t, slices.Concat(f.head(), f.start(), []byte{8}, b, []byte{255, 0, 0}))
}

// P15.1: of just as many bytes as the picture has pixels.
func TestCounts(t *testing.T) {
	for _, s := range []probe.Size{{1, 1}, {3, 2}, {20, 15}} {
		for _, runs := range []bool{false, true} {
			n := s.W * s.H
			f := noisy(1, s.W, s.H, 4)
			f.runs = runs
			all := append(f.rows(), make([]byte, n+3)...)
			for k := range all {
				b := f.with(2, lzwOf(all[:k], 2))
				if k == n {
					wantImage(t, b, n, f.image(noHole))
				} else {
					wantBroken(t, b)
				}
			}
		}
	}
	// It's the picture's pixels that count, not the screen's.
	f := noisy(1, 3, 3, 4)
	f.place = api.Rect{X: 1, Y: 1, W: 2, H: 1}
	wantBroken(t, f.with(2, lzwOf(make([]byte, 9), 2)))
	f.index = f.index[:2]
	wantImage(t, f.bytes(), 9, f.image(noHole))
}

// P15.1: codes that are none, or that end too early; behind their end nothing is looked
// at but the sub-blocks.
func TestCodes(t *testing.T) {
	f := noisy(3, 6, 5, 4)
	codes := lzwOf(f.index, 2)
	for i := range codes {
		wantBroken(t, f.with(2, codes[:i]))
		for x := 1; x < 256; x++ {
			b := changed(codes, i, codes[i]^byte(x))
			index, e := lzw.GifUnpack(b, 2, 30)
			if e != api.OK || len(index) != 30 {
				wantBroken(t, f.with(2, b))
				continue
			}
			g := f
			g.index = index
			wantImage(t, f.with(2, b), 30, g.image(noHole))
		}
	}
	for _, behind := range [][]byte{{0}, {255}, codes, probe.Noise(1, 1000), bytes.Repeat([]byte{59}, 300)} {
		wantImage(t, f.with(2, append(slices.Clone(codes), behind...)), 30, f.image(noHole))
	}
	// Codes 0 0 5 without a clear ahead, and 4 0 7.
	two := file{width: 2, height: 1, palette: ramp(2), index: []byte{0, 0}}
	wantImage(t, two.with(2, []byte{0 | 0<<3 | 5<<6&0xFF, 5 >> 2}), 2, two.image(noHole))
	wantBroken(t, two.with(2, []byte{4 | 0<<3 | 7<<6&0xFF, 7 >> 2}))
	// Rows of the code that the table would get next, and a table that is full.
	great := file{width: 256, height: 256, palette: ramp(2), index: make([]byte, 65536)}
	wantImage(t, great.bytes(), plenty, great.image(noHole))
	great = noisy(9, 256, 256, 256)
	wantImage(t, great.bytes(), plenty, great.image(noHole))
}
