package bmp_test

import (
	"bytes"
	"encoding/binary"
	"slices"
	"testing"

	"darkroom/api"
	"darkroom/bmp"
	"darkroom/probe"
)

// plainEncode writes an image as the chapter tells: a head number by number, and
// pixel by pixel.
func plainEncode(m api.Image, alpha bool) []byte {
	numbers := []uint32{40, uint32(m.W), uint32(m.H), 1 | 24<<16, 0, 0, 0, 0, 0, 0}
	if alpha {
		numbers = append([]uint32{108, uint32(m.W), uint32(m.H), 1 | 32<<16, 3, 0, 0, 0, 0, 0, 16711680, 65280, 255, 4278190080}, make([]uint32, 13)...)
	}
	var pixels []byte
	colors := probe.ColorsOf(m)
	for y := m.H - 1; y >= 0; y-- {
		for _, c := range colors[y*m.W : (y+1)*m.W] {
			pixels = append(pixels, byte(probe.Down(c.B, 255)), byte(probe.Down(c.G, 255)), byte(probe.Down(c.R, 255)))
			if alpha {
				pixels = append(pixels, byte(probe.Down(c.A, 255)))
			}
		}
		for len(pixels)%4 != 0 {
			pixels = append(pixels, 0)
		}
	}
	numbers[5] = uint32(len(pixels))
	place := uint32(14 + 4*len(numbers))
	all := []byte("BM")
	for _, v := range append([]uint32{place + uint32(len(pixels)), 0, place}, numbers...) {
		all = binary.LittleEndian.AppendUint32(all, v)
	}
	return append(all, pixels...)
}

// rounded answers what an image is when it was written and read again.
func rounded(m api.Image, alpha bool) api.Image {
	m.Pix = slices.Clone(m.Pix)
	for i, s := range m.Pix {
		m.Pix[i] = probe.Up(probe.Down(s, 255), 255)
		if !alpha && i%4 == 3 {
			m.Pix[i] = greatest
		}
	}
	return m
}

// wantFile wants a file of an image.
func wantFile(t *testing.T, m api.Image, alpha bool, want []byte) {
	b, e := bmp.Encode(m, alpha)
	if e != api.OK || !bytes.Equal(b, want) {
		t.Helper()
		t.Fatalf("Encode(%s, %v) = %s, %d; want %s", probe.Told(m), alpha, told(b), e, told(want))
	}
}

// P11.2: files told byte by byte.
func TestEncodeKnown(t *testing.T) {
	m := api.Image{W: 1, H: 2, Pix: []uint16{257, 514, 771, 1028, 65535, 0, 0, 0}}
	wantFile(t, m, false, []byte{
		'B', 'M', 62, 0, 0, 0, 0, 0, 0, 0, 54, 0, 0, 0,
		40, 0, 0, 0, 1, 0, 0, 0, 2, 0, 0, 0, 1, 0, 24, 0, 0, 0, 0, 0, 8, 0, 0, 0, 0, 0, 0, 0, 0, 0, 0, 0, 0, 0, 0, 0, 0, 0, 0, 0,
		0, 0, 255, 0, 3, 2, 1, 0,
	})
	wantFile(t, m, true, slices.Concat([]byte{
		'B', 'M', 130, 0, 0, 0, 0, 0, 0, 0, 122, 0, 0, 0,
		108, 0, 0, 0, 1, 0, 0, 0, 2, 0, 0, 0, 1, 0, 32, 0, 3, 0, 0, 0, 8, 0, 0, 0, 0, 0, 0, 0, 0, 0, 0, 0, 0, 0, 0, 0, 0, 0, 0, 0,
		0, 0, 255, 0, 0, 255, 0, 0, 255, 0, 0, 0, 0, 0, 0, 255,
	}, make([]byte, 52), []byte{0, 0, 255, 0, 3, 2, 1, 4}))
}

// P11.2: images of each size, with alpha and without.
func TestEncode(t *testing.T) {
	t.Parallel()
	for i, s := range probe.Sizes() {
		m := probe.Image(uint32(i), s.W, s.H)
		wantFile(t, m, false, plainEncode(m, false))
		wantFile(t, m, true, plainEncode(m, true))
	}
	for w := 1; w <= 20; w++ {
		m := probe.Image(uint32(w), w, 3)
		wantFile(t, m, false, plainEncode(m, false))
		wantFile(t, m, true, plainEncode(m, true))
	}
}

// P11.2, P11.3: each sample as each of a pixel's four.
func TestEncodeOfEachSample(t *testing.T) {
	t.Parallel()
	for k := range 4 {
		m := probe.EachSample(k)
		for _, alpha := range []bool{false, true} {
			wantFile(t, m, alpha, plainEncode(m, alpha))
			b, _ := bmp.Encode(m, alpha)
			wantImage(t, b, plenty, rounded(m, alpha))
		}
	}
}

// P11.2: an image that isn't good.
func TestEncodeOfNotGood(t *testing.T) {
	for _, m := range probe.BadImages() {
		for _, alpha := range []bool{false, true} {
			if b, e := bmp.Encode(m, alpha); e != api.ErrImage || len(b) != 0 {
				t.Fatal(probe.Told(m), alpha, told(b), e)
			}
		}
	}
}

// P11.3, P2: what was written is read as the image, rounded; what was read goes
// there and back as it is.
func TestThereAndBack(t *testing.T) {
	t.Parallel()
	for i, s := range probe.Sizes() {
		m := probe.Image(uint32(i), s.W, s.H)
		for _, alpha := range []bool{false, true} {
			want := rounded(m, alpha)
			b, _ := bmp.Encode(m, alpha)
			wantImage(t, b, s.W*s.H, want)
			b, _ = bmp.Encode(want, alpha)
			wantImage(t, b, s.W*s.H, want)
		}
	}
}
