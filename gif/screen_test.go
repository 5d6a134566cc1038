package gif_test

import (
	"slices"
	"testing"

	"darkroom/api"
	"darkroom/probe"
)

// P15.1: files told byte by byte.
func TestDecodeKnown(t *testing.T) {
	wantImage(t, dot(), 1, dotImage())
	wantImage(t, slices.Insert(dot(), 19, 33, 249, 4, 1, 0, 0, 1, 0), 1, probe.Row(hole))
	wantImage(t, slices.Insert(dot(), 19, 33, 249, 4, 1, 0, 0, 0, 0), 1, dotImage())
	wantImage(t, slices.Insert(dot(), 19, 33, 249, 4, 0, 0, 0, 1, 0), 1, dotImage())
	wantImage(t, slices.Insert(dot(), 19, 33, 254, 2, 'h', 'i', 0), 1, dotImage())
	// Three columns, of which the middle one has a picture with a palette of its own:
	// codes 4 (clear), 1, 0, 5 (end) of three bits.
	wantImage(t, []byte{
		'G', 'I', 'F', '8', '7', 'a', 3, 0, 2, 0, 0, 9, 9,
		44, 1, 0, 0, 0, 1, 0, 2, 0, 128, 1, 2, 3, 4, 5, 6, 2, 2, 4 | 1<<3, 5 << 1, 0,
	}, 6, probe.ImageOf(3, 2, []api.Color{hole, probe.Eight(4, 5, 6), hole, hole, probe.Eight(1, 2, 3), hole}))
}

// P15.1: a file begins with one of two marks, and with nothing else.
func TestMarks(t *testing.T) {
	for at := range 6 {
		for x := range 256 {
			b := changed(dot(), at, byte(x))
			if begin := string(b[:6]); begin == "GIF87a" || begin == "GIF89a" {
				wantImage(t, b, 1, dotImage())
			} else {
				wantMalformed(t, b)
			}
		}
	}
	for _, begin := range []string{"gif89a", "GIF88a", "GIF90a", "GIF89A", "89aGIF", "PNG89a", "GIF8 a", "      "} {
		wantMalformed(t, append([]byte(begin), dot()[6:]...))
		wantMalformed(t, append([]byte(begin), dot()...))
	}
}

// P15.1: a file that ends too early, wherever it does.
func TestCut(t *testing.T) {
	f := noisy(1, 5, 4, 8)
	f.extras = [][]byte{extra(254, "a text", "another"), control(3), extra(1)}
	f.own, f.cut = ramp(16), 3
	for _, b := range [][]byte{dot(), f.bytes(), noisy(2, 40, 40, 256).bytes()} {
		head := atPalette + 3*2<<(b[atFlags]%8)
		for n := range len(b) - 1 {
			if n < head {
				wantMalformed(t, b[:n])
			} else {
				wantBroken(t, b[:n])
			}
		}
	}
	// The last byte stands behind the picture.
	wantImage(t, f.bytes()[:len(f.bytes())-1], plenty, f.image(3))
	wantImage(t, dot()[:34], 1, dotImage())
	wantMalformed(t, nil)
}

// P15.1: sides are of two bytes, the lower one first, and 1 or more.
func TestSides(t *testing.T) {
	for _, s := range []probe.Size{{1, 1}, {2, 1}, {1, 2}, {255, 1}, {256, 1}, {257, 1}, {1, 255}, {1, 256}, {1, 257}, {4096, 1}, {1, 4096}, {259, 250}} {
		f := noisy(1, s.W, s.H, 4)
		b := f.bytes()
		if b[atWidth] != byte(s.W) || b[atWidth+1] != byte(s.W>>8) || b[atHeight] != byte(s.H) || b[atHeight+1] != byte(s.H>>8) {
			t.Fatal(s, told(b))
		}
		wantImage(t, b, s.W*s.H, f.image(noHole))
	}
	for _, s := range []probe.Size{{0, 0}, {0, 1}, {1, 0}, {0, 65535}, {65535, 0}, {0, 256}, {256, 0}} {
		for _, place := range []api.Rect{{}, {W: 1, H: 1}} {
			f := file{width: s.W, height: s.H, palette: ramp(2), place: place, index: []byte{1}}
			wantMalformed(t, f.bytes())
		}
	}
	// The lower byte is nought, the higher one isn't.
	wantFault(t, changed(changed(dot(), atWidth, 0), atWidth+1, 1), 255, api.ErrLimit)
	wantFault(t, changed(changed(dot(), atHeight, 0), atHeight+1, 1), 255, api.ErrLimit)
	wantImage(t, changed(changed(dot(), atWidth, 0), atWidth+1, 1), 256, probe.ImageOf(256, 1, append([]api.Color{white}, make([]api.Color, 255)...)))
	wantImage(t, changed(changed(dot(), atHeight, 0), atHeight+1, 1), 256, probe.ImageOf(1, 256, append([]api.Color{white}, make([]api.Color, 255)...)))
}

// P15.1: of the flags but a few bits are looked at, and two bytes behind them not at
// all.
func TestUnread(t *testing.T) {
	for x := range 256 {
		wantImage(t, changed(dot(), atUnread, byte(x)), 1, dotImage())
		wantImage(t, changed(dot(), atUnread+1, byte(x)), 1, dotImage())
		f := noisy(uint32(x), 3, 11, 4)
		f.fill, f.runs = byte(x), x%3 == 0
		wantImage(t, f.bytes(), 33, f.image(noHole))
		f.palette, f.own = nil, f.palette
		wantImage(t, f.bytes(), 33, f.image(noHole))
		f.palette, f.own = nil, nil
		wantBroken(t, f.bytes())
	}
}

// P15.1: palettes of all sizes, the screen's and a picture's own, each entry of
// which is some pixel's.
func TestPalettes(t *testing.T) {
	for n := 2; n <= 256; n *= 2 {
		f := file{width: n, height: 1, palette: ramp(n), index: probe.Each()[:n]}
		if want := byte(128 + slices.Index([]int{2, 4, 8, 16, 32, 64, 128, 256}, n)); f.bytes()[atFlags] != want {
			t.Fatal(n, told(f.bytes()))
		}
		wantImage(t, f.bytes(), n, f.image(noHole))
		own := f
		own.own, own.palette = f.palette, nil
		wantImage(t, own.bytes(), n, f.image(noHole))
		for k := 2; k <= 256; k *= 2 {
			// A palette of its own goes ahead of the screen's, wherever that is greater.
			own.palette = probe.Noise(uint32(k), 3*k)
			wantImage(t, own.bytes(), n, f.image(noHole))
		}
	}
	// Each byte as each of a colour's samples.
	for plane := range 3 {
		var palette []byte
		var want []api.Color
		for x := range 256 {
			c := [3]int{7, 8, 9}
			c[plane] = x
			palette = append(palette, byte(c[0]), byte(c[1]), byte(c[2]))
			want = append(want, api.Color{R: uint16(257 * c[0]), G: uint16(257 * c[1]), B: uint16(257 * c[2]), A: 65535})
		}
		f := file{width: 16, height: 16, palette: palette, index: probe.Each()}
		wantImage(t, f.bytes(), 256, probe.ImageOf(16, 16, want))
	}
}

// P15.1: without a palette there is no picture, though the bytes were those of one.
func TestNoPalette(t *testing.T) {
	for x := range byte(8) {
		f := file{width: 2, height: 1, index: []byte{0, 0}, fill: x}
		wantBroken(t, f.bytes())
		f.extras = [][]byte{control(0)}
		wantBroken(t, f.bytes())
		f.extras = [][]byte{ramp(2 << x)}
		wantBroken(t, f.bytes())
	}
}

// P15.1: an index has an entry, wherever it stands, also if it is the clear one; in a
// palette of the picture's own, if it has one.
func TestIndices(t *testing.T) {
	for n := 2; n <= 128; n *= 2 {
		for _, index := range []int{n - 1, n, n + 1, 2*n - 1, 255} {
			for at := range 6 {
				for _, extras := range [][][]byte{nil, {control(0)}, {control(index)}} {
					f := file{width: 3, height: 2, palette: ramp(n), extras: extras, index: make([]byte, 6)}
					f.index[at] = byte(index)
					clear := noHole
					if extras != nil {
						clear = int(extras[0][6])
					}
					own := f
					own.palette, own.own = ramp(256), f.palette
					great := f
					great.palette, great.own = f.palette, ramp(256)
					wantImage(t, great.bytes(), 6, great.image(clear))
					if index < n {
						wantImage(t, f.bytes(), 6, f.image(clear))
						wantImage(t, own.bytes(), 6, own.image(clear))
					} else {
						wantBroken(t, f.bytes())
						wantBroken(t, own.bytes())
					}
				}
			}
		}
	}
}
