package pnm_test

import (
	"fmt"
	"slices"
	"testing"

	"darkroom/api"
	"darkroom/pnm"
	"darkroom/probe"
)

// P10.2: files told byte by byte.
func TestEncodeKnown(t *testing.T) {
	const w = greatest
	two := api.Image{W: 2, H: 1, Pix: []uint16{0, 0, 0, w, w, w, w, 0}}
	six := probe.ImageOf(3, 2, []api.Color{{R: w}, {G: w}, {B: w}, {R: 257, G: 514, B: 771, A: 9}, {R: w, G: w, B: w}, {A: w}})
	nine := probe.Greys(9, 2, 0, w, 0, w, 0, w, 0, w, 0, w, w, w, w, w, w, w, 0, w)
	for _, x := range []struct {
		m         api.Image
		kind, top int
		want      string
	}{
		{two, 1, 5, "P1\n2 1\n1 0\n"},
		{two, 2, 9, "P2\n2 1\n9\n0 9\n"},
		{two, 3, 1, "P3\n2 1\n1\n0 0 0 1 1 1\n"},
		{two, 4, 1, "P4\n2 1\n\x80"},
		{two, 5, 255, "P5\n2 1\n255\n\x00\xFF"},
		{two, 5, 256, "P5\n2 1\n256\n\x00\x00\x01\x00"},
		{two, 6, 7, "P6\n2 1\n7\n\x00\x00\x00\x07\x07\x07"},
		{two, 6, 65535, "P6\n2 1\n65535\n\x00\x00\x00\x00\x00\x00\xFF\xFF\xFF\xFF\xFF\xFF"},
		{six, 1, 1, "P1\n3 2\n1 0 1\n1 0 1\n"},
		{six, 2, 100, "P2\n3 2\n100\n30 59 11\n1 100 0\n"},
		{six, 3, 255, "P3\n3 2\n255\n255 0 0 0 255 0 0 0 255\n1 2 3 255 255 255 0 0 0\n"},
		{six, 4, 1, "P4\n3 2\n\xA0\xA0"},
		{six, 5, 65535, "P5\n3 2\n65535\n\x4C\x8B\x96\x45\x1D\x2F\x01\xD2\xFF\xFF\x00\x00"},
		{six, 6, 255, "P6\n3 2\n255\n\xFF\x00\x00\x00\xFF\x00\x00\x00\xFF\x01\x02\x03\xFF\xFF\xFF\x00\x00\x00"},
		{nine, 1, 1, "P1\n9 2\n1 0 1 0 1 0 1 0 1\n0 0 0 0 0 0 0 1 0\n"},
		{nine, 4, 1, "P4\n9 2\n\xAA\x80\x01\x00"},
		{probe.Greys(1, 3, 0, w, 0), 1, 1, "P1\n1 3\n1\n0\n1\n"},
		{probe.Greys(1, 3, 0, w, 0), 2, 10, "P2\n1 3\n10\n0\n10\n0\n"},
		{probe.ImageOf(2, 1, []api.Color{{R: w}, {R: w}}), 3, 255, "P3\n2 1\n255\n255 0 0 255 0 0\n"},
	} {
		wantFile(t, x.m, x.kind, x.top, x.want)
	}
}

// P10.2: images of each size, of each kind, with top values of all sorts.
func TestEncode(t *testing.T) {
	t.Parallel()
	for i, s := range probe.Sizes() {
		m := probe.Image(uint32(i), s.W, s.H)
		for _, kind := range kinds() {
			for _, top := range []int{1, 255, 256, greatest} {
				wantFile(t, m, kind, top, string(plainEncode(m, kind, top)))
			}
		}
	}
	m := probe.Image(100, 37, 5)
	for _, kind := range kinds() {
		for _, top := range tops() {
			wantFile(t, m, kind, top, string(plainEncode(m, kind, top)))
		}
	}
}

// P10.2: each width that makes other bits at a row's end.
func TestEncodeOfEachWidth(t *testing.T) {
	for w := 1; w <= 33; w++ {
		for _, kind := range kinds() {
			m := probe.Image(uint32(w), w, 3)
			wantFile(t, m, kind, 77, string(plainEncode(m, kind, 77)))
			black := probe.Greys(w, 3, slices.Repeat([]uint16{0}, 3*w)...)
			wantFile(t, black, kind, 300, string(plainEncode(black, kind, 300)))
		}
	}
}

// P10.2: what is black and what is white: greys around the middle, and colours
// of such greys.
func TestBlackAndWhite(t *testing.T) {
	var all []uint16
	for v := range greatest + 1 {
		all = append(all, uint16(v))
	}
	m := probe.Greys(256, 256, all...)
	b, e := pnm.Encode(m, 4, 1)
	if head := "P4\n256 256\n"; e != api.OK || string(b) != head+string(probe.Alike(255, 4096))+string(probe.Alike(0, 4096)) {
		t.Error(e, probe.Short(b))
	}
	for _, x := range []struct {
		c    api.Color
		want string
	}{
		{api.Color{R: 32767, G: 32767, B: 32767}, "1"}, {api.Color{R: 32768, G: 32768, B: 32768}, "0"},
		{api.Color{R: 65535, G: 22440}, "1"}, {api.Color{R: 65535, G: 22441}, "0"}, // 32767 and 32768
		{api.Color{G: 55822}, "0"}, {api.Color{G: 55821}, "1"}, {api.Color{R: 65535, B: 65535}, "1"},
		{api.Color{R: 32767, G: 32767, B: 32767, A: greatest}, "1"}, {api.Color{R: 32768, G: 32768, B: 32768, A: greatest}, "0"},
	} {
		wantFile(t, probe.ImageOf(1, 1, []api.Color{x.c}), 1, 1, "P1\n1 1\n"+x.want+"\n")
	}
}

// P10.2: samples around those that are rounded up, of each top value.
func TestEncodeOfEachTop(t *testing.T) {
	t.Parallel()
	for top := 1; top <= greatest; top++ {
		half := uint16((greatest/2 + top) / top)
		c := api.Color{R: half, G: half - 1, B: greatest - half, A: uint16(top)}
		m := probe.ImageOf(1, 1, []api.Color{c})
		wantFile(t, m, 3, top, fmt.Sprintf("P3\n1 1\n%d\n%d %d %d\n", top, probe.Down(c.R, top), probe.Down(c.G, top), probe.Down(c.B, top)))
		wantFile(t, m, 2, top, fmt.Sprintf("P2\n1 1\n%d\n%d\n", top, probe.Down(luma(c), top)))
		wantFile(t, m, 6, top, string(plainEncode(m, 6, top)))
		wantFile(t, m, 5, top, string(plainEncode(m, 5, top)))
	}
}

// P10.2: alpha is let go.
func TestAlphaIsLetGo(t *testing.T) {
	m := probe.Image(5, 4, 3)
	for _, kind := range kinds() {
		want, _ := pnm.Encode(m, kind, 1000)
		for _, a := range []uint16{0, 1, 32768, greatest} {
			n := api.Image{W: m.W, H: m.H, Pix: slices.Clone(m.Pix)}
			for i := 3; i < len(n.Pix); i += 4 {
				n.Pix[i] = a
			}
			wantFile(t, n, kind, 1000, string(want))
		}
	}
}

// P10.2: kinds that there aren't, and top values that may not be, of all kinds.
func TestEncodeOutOfRange(t *testing.T) {
	m := probe.Image(6, 2, 2)
	wrong := append(probe.Far(), -6, -1, 0)
	for _, kind := range slices.Concat(wrong, []int{7, 8, 9, 10, 49, 54, 255, 256, 257}) {
		for _, top := range slices.Concat(wrong, []int{1, 255, greatest, greatest + 1}) {
			wantNoFile(t, m, kind, top, api.ErrRange)
		}
	}
	for _, kind := range kinds() {
		for _, top := range slices.Concat(wrong, []int{greatest + 1, greatest + 2}) {
			wantNoFile(t, m, kind, top, api.ErrRange)
		}
		for _, top := range []int{1, greatest} {
			wantFile(t, m, kind, top, string(plainEncode(m, kind, top)))
		}
	}
}

// P10.2, R2: an image that isn't good goes ahead of all else.
func TestEncodeOfNotGood(t *testing.T) {
	for _, m := range probe.BadImages() {
		for _, kind := range []int{0, 1, 2, 3, 4, 5, 6, 7, -1} {
			for _, top := range []int{0, 1, 255, greatest, greatest + 1} {
				wantNoFile(t, m, kind, top, api.ErrImage)
			}
		}
	}
}

// P10.3, P2: what was written is read as the image, rounded.
func TestThereAndBack(t *testing.T) {
	t.Parallel()
	for i, s := range probe.Sizes() {
		m := probe.Image(uint32(i), s.W, s.H)
		for _, kind := range kinds() {
			for _, top := range []int{1, 200, 255, 256, 5000, greatest} {
				wantBack(t, m, kind, top)
			}
		}
	}
	m := probe.Image(200, 11, 7)
	for _, kind := range kinds() {
		for _, top := range tops() {
			wantBack(t, m, kind, top)
		}
	}
}

// wantBack writes an image and reads it; what was read goes there and back as it
// is.
func wantBack(t *testing.T, m api.Image, kind, top int) {
	t.Helper()
	want := rounded(m, kind, top)
	b, _ := pnm.Encode(m, kind, top)
	wantImage(t, string(b), m.W*m.H, want)
	b, _ = pnm.Encode(want, kind, top)
	wantImage(t, string(b), m.W*m.H, want)
}

// P10.3: with the greatest top value a solid image comes back as it was.
func TestAsItWas(t *testing.T) {
	m := probe.Image(9, 30, 20)
	for i := 3; i < len(m.Pix); i += 4 {
		m.Pix[i] = greatest
	}
	for _, kind := range []int{3, 6} {
		b, _ := pnm.Encode(m, kind, greatest)
		wantImage(t, string(b), plenty, m)
	}
}
