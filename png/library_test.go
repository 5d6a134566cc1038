package png_test

import (
	"bytes"
	"compress/zlib"
	"image"
	"image/color"
	library "image/png"
	"io"
	"testing"

	"darkroom/api"
	"darkroom/png"
	"darkroom/probe"
)

// unzipped answers what zlib packed, as the library reads it.
func unzipped(b []byte) ([]byte, error) {
	r, err := zlib.NewReader(bytes.NewReader(b))
	if err != nil {
		return nil, err
	}
	return io.ReadAll(r)
}

// ofLibrary answers a colour of the library's, as it stands.
func ofLibrary(t *testing.T, c color.Color) api.Color {
	up := func(v uint8) uint16 { return 257 * uint16(v) }
	switch c := c.(type) {
	case color.Gray:
		return api.Color{R: up(c.Y), G: up(c.Y), B: up(c.Y), A: greatest}
	case color.Gray16:
		return api.Color{R: c.Y, G: c.Y, B: c.Y, A: greatest}
	case color.RGBA: // these are written without alpha
		return api.Color{R: up(c.R), G: up(c.G), B: up(c.B), A: greatest}
	case color.RGBA64:
		return api.Color{R: c.R, G: c.G, B: c.B, A: greatest}
	case color.NRGBA:
		return api.Color{R: up(c.R), G: up(c.G), B: up(c.B), A: up(c.A)}
	case color.NRGBA64:
		return api.Color{R: c.R, G: c.G, B: c.B, A: c.A}
	}
	t.Fatalf("a colour of another kind: %T", c)
	return api.Color{}
}

// libraryDecode answers a file's image, as the library reads it.
func libraryDecode(t *testing.T, b []byte) api.Image {
	t.Helper()
	m, err := library.Decode(bytes.NewReader(b))
	if err != nil {
		t.Fatal(told(b), err)
	}
	r := m.Bounds()
	var all []api.Color
	for y := range r.Dy() {
		for x := range r.Dx() {
			all = append(all, ofLibrary(t, m.At(r.Min.X+x, r.Min.Y+y)))
		}
	}
	return probe.ImageOf(r.Dx(), r.Dy(), all)
}

// P13.1: files of all colours and depths are read as the library reads them.
func TestReadAsTheLibrary(t *testing.T) {
	t.Parallel()
	for i, f := range smallFiles() {
		wantImage(t, f.bytes(), plenty, libraryDecode(t, f.bytes()))
		big := noisy(uint32(i), 20+i%31, 10+i%17, f.depth, f.colour)
		big.order, big.kinds, big.clear = f.order, []int{i % 5, 4, 3, 2, 1, 0}, f.clear
		wantImage(t, big.bytes(), plenty, libraryDecode(t, big.bytes()))
	}
}

// drawn are images of the library, of all kinds that it writes in a way of its own.
func drawn(seed uint32, w, h int) []image.Image {
	r := image.Rect(0, 0, w, h)
	grey, grey16, rgba, rgba64 := image.NewGray(r), image.NewGray16(r), image.NewRGBA(r), image.NewRGBA64(r)
	nrgba, nrgba64 := image.NewNRGBA(r), image.NewNRGBA64(r)
	for _, pix := range [][]uint8{grey.Pix, grey16.Pix, rgba.Pix, rgba64.Pix, nrgba.Pix, nrgba64.Pix} {
		copy(pix, probe.Few(seed, len(pix), 256-int(seed)))
	}
	for i := 3; i < len(rgba.Pix); i += 4 {
		rgba.Pix[i] = 255
	}
	for i := 6; i < len(rgba64.Pix); i += 8 {
		rgba64.Pix[i], rgba64.Pix[i+1] = 255, 255
	}
	// Not all solid, so that alpha is written.
	nrgba.Pix[3], nrgba64.Pix[7] = 7, 7
	all := []image.Image{grey, grey16, rgba, rgba64, nrgba, nrgba64}
	for _, n := range []int{1, 2, 3, 4, 5, 16, 17, 256} {
		var p color.Palette
		for _, c := range probe.Colors(seed, n) {
			p = append(p, color.NRGBA{R: uint8(c.R), G: uint8(c.G), B: uint8(c.B), A: uint8(c.A)})
		}
		m := image.NewPaletted(r, p)
		copy(m.Pix, probe.Few(seed, len(m.Pix), n))
		all = append(all, m)
	}
	return all
}

// P13.1: what the library writes is read.
func TestReadTheLibrary(t *testing.T) {
	t.Parallel()
	for i, s := range []probe.Size{{1, 1}, {3, 2}, {40, 30}, {200, 100}} {
		for _, m := range drawn(uint32(i), s.W, s.H) {
			var file bytes.Buffer
			if err := library.Encode(&file, m); err != nil {
				t.Fatal(err)
			}
			var all []api.Color
			for y := range s.H {
				for x := range s.W {
					all = append(all, ofLibrary(t, m.At(x, y)))
				}
			}
			wantImage(t, file.Bytes(), plenty, probe.ImageOf(s.W, s.H, all))
		}
	}
}

// P13.2: the library reads what is written.
func TestTheLibraryReads(t *testing.T) {
	t.Parallel()
	for i, s := range probe.Sizes() {
		for k, m := range []api.Image{probe.Image(uint32(i), s.W, s.H), ramps(s.W, s.H)} {
			for _, colour := range written() {
				for _, depth := range []int{8, 16} {
					if s.W*s.H > 10000 && (i+k+colour/2+depth/8)%3 > 0 {
						continue
					}
					b, e := png.Encode(m, colour, depth)
					if e != api.OK {
						t.Fatal(e)
					}
					if s := probe.Other(libraryDecode(t, b), api.OK, rounded(m, colour, depth), api.OK); s != "" {
						t.Fatal(colour, depth, s)
					}
				}
			}
		}
	}
}
