package gif_test

import (
	"bytes"
	"image"
	"image/color"
	library "image/gif"
	"testing"

	"darkroom/api"
	"darkroom/gif"
	"darkroom/probe"
)

// ofLibrary answers a colour of the library's, of eight bits and solid or clear.
func ofLibrary(t *testing.T, c color.Color) api.Color {
	x, ok := c.(color.RGBA)
	if !ok || x.A != 255 && x != (color.RGBA{}) {
		t.Fatalf("a colour of another kind: %T %v", c, c)
	}
	if x.A == 0 {
		return hole
	}
	return probe.Eight(int(x.R), int(x.G), int(x.B))
}

// shown answers the first of the library's pictures, on its screen.
func shown(t *testing.T, g *library.GIF) api.Image {
	list := make([]api.Color, g.Config.Width*g.Config.Height)
	m := g.Image[0]
	r := m.Bounds()
	for y := r.Min.Y; y < r.Max.Y; y++ {
		for x := r.Min.X; x < r.Max.X; x++ {
			list[y*g.Config.Width+x] = ofLibrary(t, m.At(x, y))
		}
	}
	return probe.ImageOf(g.Config.Width, g.Config.Height, list)
}

// libraryDecode answers a file's image, as the library reads it.
func libraryDecode(t *testing.T, b []byte) api.Image {
	t.Helper()
	g, err := library.DecodeAll(bytes.NewReader(b))
	if err != nil {
		t.Fatal(told(b), err)
	}
	return shown(t, g)
}

// P15.1: files of all kinds are read as the library reads them.
func TestReadAsTheLibrary(t *testing.T) {
	t.Parallel()
	files, _ := smallFiles()
	for i, f := range files {
		if len(f.extras) == 4 {
			// The library keeps a clear index that a later block takes back.
			f.extras = f.extras[1:]
		}
		wantImage(t, f.bytes(), plenty, libraryDecode(t, f.bytes()))
		n := 2 << (i % 8)
		big := noisy(uint32(i), 20+i%31, 10+i%17, n)
		big.place = api.Rect{X: i % 9, Y: i % 13, W: big.width, H: big.height}
		big.width, big.height = 60, 40
		big.extras, big.runs, big.cut = [][]byte{control(i % n), extra(254, "a text")}, i%3 == 0, 1+i
		wantImage(t, big.bytes(), plenty, libraryDecode(t, big.bytes()))
		wantImage(t, big.bytes(), plenty, big.image(i%n))
	}
}

// drawn answers pictures of the library's, the first one of so many colours, with a
// clear one among them or none.
func drawn(seed uint32, w, h, colors int, clear bool) *library.GIF {
	g := &library.GIF{Config: image.Config{Width: w + 3, Height: h + 4}}
	for i := range uint32(2) {
		var p color.Palette
		noise := probe.Noise(seed+i, 3*colors)
		for k := range colors {
			p = append(p, color.RGBA{R: noise[3*k], G: noise[3*k+1], B: noise[3*k+2], A: 255})
		}
		if clear {
			p[int(seed)%colors] = color.RGBA{}
		}
		if i == 0 && seed%2 == 0 {
			g.Config.ColorModel = p
		}
		m := image.NewPaletted(image.Rect(int(seed)%4, int(seed)%5, int(seed)%4+w, int(seed)%5+h), p)
		copy(m.Pix, probe.Few(seed+7, len(m.Pix), colors))
		g.Image = append(g.Image, m)
		g.Delay = append(g.Delay, int(seed))
		g.Disposal = append(g.Disposal, byte(seed%4))
	}
	return g
}

// P15.1: what the library writes is read, with more pictures than one.
func TestReadTheLibrary(t *testing.T) {
	t.Parallel()
	for i, s := range []probe.Size{{1, 1}, {3, 2}, {40, 30}, {200, 100}} {
		for k, n := range []int{1, 2, 3, 4, 5, 16, 17, 100, 255, 256} {
			for _, clear := range []bool{false, true} {
				g := drawn(uint32(10*i+k), s.W, s.H, n, clear)
				var file bytes.Buffer
				if err := library.EncodeAll(&file, g); err != nil {
					t.Fatal(err)
				}
				wantImage(t, file.Bytes(), plenty, shown(t, g))
				wantImage(t, file.Bytes(), plenty, libraryDecode(t, file.Bytes()))
			}
		}
	}
}

// P15.2: the library reads what is written.
func TestTheLibraryReads(t *testing.T) {
	t.Parallel()
	for i, s := range probe.Sizes() {
		for how := range uint32(6) {
			m := probe.Image(uint32(i), s.W, s.H)
			probe.Coarsen(m, how)
			b, e := gif.Encode(m)
			if e != api.OK {
				t.Fatal(e)
			}
			wantImage(t, b, plenty, libraryDecode(t, b))
		}
	}
	for n := 1; n <= 260; n++ {
		for _, m := range []api.Image{probe.Row(probe.Eights(n)...), probe.Row(append(probe.Eights(n), hole)...)} {
			b, _ := gif.Encode(m)
			wantImage(t, b, plenty, libraryDecode(t, b))
		}
	}
}
