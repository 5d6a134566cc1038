package chunk_test

import (
	"bytes"
	"compress/zlib"
	"image"
	"image/color"
	"image/png"
	"io"
	"testing"

	"darkroom/api"
	"darkroom/chunk"
	"darkroom/probe"
)

// drawn answers an image of the library, and its pixels as bytes, row by row.
func drawn(seed uint32, w, h int) (*image.NRGBA, []byte) {
	m := image.NewNRGBA(image.Rect(0, 0, w, h))
	copy(m.Pix, probe.Few(seed, 4*w*h, 90))
	m.SetNRGBA(0, 0, color.NRGBA{R: 200, A: 7}) // not all solid, so that alpha is written
	return m, m.Pix
}

// packed answers what zlib makes of bytes.
func packed(b []byte) []byte {
	var out bytes.Buffer
	w := zlib.NewWriter(&out)
	_, _ = w.Write(b)
	_ = w.Close()
	return out.Bytes()
}

// P12.1, P12.3: a file that the library wrote is read.
func TestReadTheLibrary(t *testing.T) {
	for i, s := range []probe.Size{{1, 1}, {3, 2}, {40, 30}, {200, 100}} {
		m, want := drawn(uint32(i), s.W, s.H)
		var file bytes.Buffer
		if err := png.Encode(&file, m); err != nil {
			t.Fatal(err)
		}
		cs, e := chunk.Split(file.Bytes())
		if e != api.OK || len(cs) < 3 || cs[0].Type != "IHDR" {
			t.Fatal(told(cs), e)
		}
		var data []byte
		for _, c := range cs[1 : len(cs)-1] {
			data = append(data, c.Data...)
		}
		r, err := zlib.NewReader(bytes.NewReader(data))
		if err != nil {
			t.Fatal(err)
		}
		b, err := io.ReadAll(r)
		if err != nil {
			t.Fatal(err)
		}
		wantUnfilter(t, b, 4*s.W, 4, want)
	}
}

// wantLibrary wants the library to read a picture out of filtered bytes.
func wantLibrary(t *testing.T, w, h int, interlaced byte, filtered, want []byte) {
	t.Helper()
	head := []byte{0, 0, byte(w >> 8), byte(w), 0, 0, byte(h >> 8), byte(h), 8, 6, 0, 0, interlaced}
	file, e := chunk.Join(ended(api.Chunk{Type: "IHDR", Data: head}, api.Chunk{Type: "IDAT", Data: packed(filtered)}))
	if e != api.OK {
		t.Fatal(e)
	}
	m, err := png.Decode(bytes.NewReader(file))
	if err != nil {
		t.Fatal(err)
	}
	if pix := m.(*image.NRGBA).Pix; !bytes.Equal(pix, want) {
		t.Fatalf("%d by %d, %d: %s; want %s", w, h, interlaced, probe.Short(pix), probe.Short(want))
	}
}

// P12.2, P12.3: the library reads what is joined and filtered.
func TestTheLibraryReads(t *testing.T) {
	for i, s := range []probe.Size{{1, 1}, {3, 2}, {40, 30}, {200, 100}} {
		_, pix := drawn(uint32(i), s.W, s.H)
		for kind := range kinds {
			b, e := chunk.Filter(pix, 4*s.W, 4, kind)
			if e != api.OK {
				t.Fatal(e)
			}
			wantLibrary(t, s.W, s.H, 0, b, pix)
		}
	}
}

// P12.4: the library reads pictures by these passes.
func TestTheLibraryReadsPasses(t *testing.T) {
	t.Parallel()
	for w := 1; w <= 17; w++ {
		for h := 1; h <= 17; h++ {
			_, pix := drawn(uint32(w*h), w, h)
			var all []byte
			for i, p := range chunk.Passes(w, h) {
				var rows []byte
				for y := range p.H {
					for x := range p.W {
						at := 4 * ((p.Y+y*p.DY)*w + p.X + x*p.DX)
						rows = append(rows, pix[at:at+4]...)
					}
				}
				b, e := chunk.Filter(rows, 4*p.W, 4, i%kinds)
				if e != api.OK {
					t.Fatal(e)
				}
				all = append(all, b...)
			}
			wantLibrary(t, w, h, 1, all, pix)
		}
	}
}
