package gif_test

import (
	"bytes"
	"slices"
	"testing"

	"darkroom/api"
	"darkroom/gif"
	"darkroom/probe"
)

// A written file is what one tells of its picture's colours.
type written struct {
	palette []api.Color // all of it
	hole    int         // the clear index
	size    int         // of the codes
}

func writtenOf(t *testing.T, b []byte) written {
	t.Helper()
	var w written
	if _, e := probe.Read(func() api.Image {
		p := &plain{b: b, at: atFlags}
		flags := p.byte()
		p.text(2)
		w.palette = p.palette(flags)
		w.hole = p.extras()
		p.text(8)
		if own := p.palette(p.byte()); own != nil {
			w.palette = own
		}
		w.size = p.byte()
		return api.Image{}
	}); e != api.OK {
		t.Fatal(told(b), e)
	}
	return w
}

// wantWritten wants, sentence by sentence, what is told of a file of an image. It
// answers the file, and how many pixels aren't of their own eight-bit colour.
func wantWritten(t *testing.T, m api.Image) ([]byte, int) {
	t.Helper()
	b, e := gif.Encode(m)
	if e != api.OK {
		t.Fatalf("Encode(%s): %d", probe.Told(m), e)
	}
	if m.W*m.H < 1000 {
		if e := wantAsTold(t, b, m.W*m.H); e != api.OK {
			t.Fatal(told(b), e)
		}
	}
	r, e := gif.Decode(b, m.W*m.H)
	if e != api.OK || r.W != m.W || r.H != m.H {
		t.Fatalf("Encode(%s) = %s, thus %s, %d", probe.Told(m), told(b), probe.Told(r), e)
	}
	w := writtenOf(t, b)
	others := 0
	read := probe.ColorsOf(r)
	for i, c := range probe.ColorsOf(m) {
		if c.A < 32768 {
			if read[i] != hole {
				t.Fatalf("Encode(%s): pixel %d is %v", probe.Told(m), i, read[i])
			}
			continue
		}
		own := probe.EightBit(c)
		// The clear entry is held against the others, as it's a colour too.
		near := w.palette[probe.Nearest(w.palette, own)]
		if !slices.Contains(w.palette, read[i]) || probe.Distance(read[i], own) != probe.Distance(near, own) {
			t.Fatalf("Encode(%s): pixel %d is %v; there is %v", probe.Told(m), i, read[i], near)
		}
		if read[i] != own {
			others++
		}
	}
	room := 256
	if hasClear(m) {
		room = 255
	}
	if n := len(probe.Met(m)); n <= room && others > 0 {
		t.Fatalf("Encode(%s): of %d colours %d pixels have another", probe.Told(m), n, others)
	}
	if hasClear(m) != (w.hole != noHole) {
		t.Fatalf("Encode(%s): the clear index is %d", probe.Told(m), w.hole)
	}
	return b, others
}

func hasClear(m api.Image) bool {
	return slices.ContainsFunc(probe.ColorsOf(m), func(c api.Color) bool { return c.A < 32768 })
}

// wantBack wants an image of a file that was written.
func wantBack(t *testing.T, m api.Image, want ...api.Color) {
	t.Helper()
	b, _ := wantWritten(t, m)
	wantImage(t, b, m.W*m.H, probe.ImageOf(m.W, m.H, want))
}

// P15.2: pixels told one by one: of depth 8, rounded, clear and nearly so.
func TestEncodeKnown(t *testing.T) {
	for name, x := range map[string]struct{ pixels, want []api.Color }{
		"black":             {[]api.Color{black}, []api.Color{black}},
		"white":             {[]api.Color{white}, []api.Color{white}},
		"clear":             {[]api.Color{hole}, []api.Color{hole}},
		"clear, of colours": {[]api.Color{{R: 9, G: 8, B: 7, A: 32767}, {R: greatest, A: 1}}, []api.Color{hole, hole}},
		"just clear":        {[]api.Color{{R: greatest, A: 32767}, {R: greatest, A: 32768}}, []api.Color{hole, red}},
		"just solid":        {[]api.Color{{R: greatest, A: 32768}}, []api.Color{red}},
		"clear and black":   {[]api.Color{hole, black, hole}, []api.Color{hole, black, hole}},
		"black and clear":   {[]api.Color{black, hole, black}, []api.Color{black, hole, black}},
		"the same, clear":   {[]api.Color{red, {R: greatest}, white, {R: greatest, A: 5}}, []api.Color{red, hole, white, hole}},
		"rounded":           {[]api.Color{{R: 128, G: 129, B: 385, A: greatest}, {R: 65406, G: 65407, B: 386, A: 40000}}, []api.Color{probe.Eight(0, 1, 1), probe.Eight(254, 255, 2)}},
		"each sample":       {[]api.Color{probe.Eight(1, 2, 3), probe.Eight(3, 1, 2), probe.Eight(2, 3, 1)}, []api.Color{probe.Eight(1, 2, 3), probe.Eight(3, 1, 2), probe.Eight(2, 3, 1)}},
	} {
		t.Log(name)
		wantBack(t, probe.Row(x.pixels...), x.want...)
	}
}

// P15.2, P4: images of as many colours as a palette has room for, of fewer, and of
// more, with clear pixels and without.
func TestEncodeOfMany(t *testing.T) {
	t.Parallel()
	for _, n := range []int{1, 2, 3, 4, 5, 7, 8, 9, 15, 16, 17, 31, 32, 33, 63, 64, 65, 127, 128, 129, 253, 254, 255, 256, 257, 258, 300, 1000, 4000} {
		all := probe.Eights(n)
		twice := slices.Concat(all, all)
		for _, m := range []api.Image{
			probe.Row(all...), probe.Row(twice...), probe.ImageOf(1, min(n, 4096), all),
			probe.Row(append(slices.Clone(all), hole)...), probe.Row(append([]api.Color{hole}, all...)...), probe.Row(slices.Insert(slices.Clone(twice), n/2, hole, api.Color{R: 300, A: 32767})...),
		} {
			_, others := wantWritten(t, m)
			room := 256
			if hasClear(m) {
				room = 255
			}
			if n > room && others == 0 {
				t.Error("no pixel has another colour:", n)
			}
		}
	}
}

// P15.2: a palette has room for all colours, and no more than it needs.
func TestEncodePalettes(t *testing.T) {
	for n := 1; n <= 300; n++ {
		for _, holes := range [][]api.Color{nil, {hole}} {
			b, _ := wantWritten(t, probe.Row(append(probe.Eights(n), holes...)...))
			w := writtenOf(t, b)
			told := 1
			for 1<<told < min(n+len(holes), 256) {
				told++
			}
			// Codes have two bits at least.
			if len(w.palette) != 1<<told || w.size != max(told, 2) {
				t.Fatal(n, holes, len(w.palette), w.size)
			}
		}
	}
}

// P15.2, P4: a clear entry is nearer to no pixel than the colour that it has: of a
// black image of many colours, and of a white one.
func TestEncodeHolesAreNotNear(t *testing.T) {
	for _, plane := range []int{0, 1, 2} {
		for _, low := range []bool{false, true} {
			var all []api.Color
			for i := range 4000 {
				v := [3]int{100 + i%16, 100 + i/16%16, 100 + i/256}
				v[plane] = i % 61
				if low {
					v[plane] = 255 - v[plane]
				}
				all = append(all, probe.Eight(v[0], v[1], v[2]))
			}
			for _, first := range []api.Color{hole, {R: greatest, G: greatest, B: greatest}, {R: 30000, A: 32767}} {
				wantWritten(t, probe.Row(append([]api.Color{first}, all...)...))
				wantWritten(t, probe.Row(append(all, first)...))
			}
		}
	}
}

// P15.2, P2, P4: images that look like nothing in particular, of few colours and many,
// with clear pixels among the others.
func TestEncodeOfNoise(t *testing.T) {
	t.Parallel()
	exact, near, clear := 0, 0, 0
	for seed := range uint32(400) {
		s := probe.Noise(seed, 6)
		m := probe.Image(seed, 1+int(s[0])%40, 1+int(s[1])%40)
		probe.Coarsen(m, seed)
		_, others := wantWritten(t, m)
		switch {
		case len(probe.Met(m)) == 0:
			clear++
		case others == 0:
			exact++
		default:
			near++
		}
	}
	if exact < 50 || near < 50 || clear < 5 {
		t.Error("too seldom:", exact, near, clear)
	}
}

// P15.2: images of each size, the greatest ones among them.
func TestEncodeSizes(t *testing.T) {
	t.Parallel()
	for i, s := range probe.Sizes() {
		m := probe.Image(uint32(i), s.W, s.H)
		probe.Coarsen(m, 4)
		wantWritten(t, m)
		wantBack(t, probe.ImageOf(s.W, s.H, slices.Repeat([]api.Color{red}, s.W*s.H)), slices.Repeat([]api.Color{red}, s.W*s.H)...)
		wantBack(t, probe.ImageOf(s.W, s.H, slices.Repeat([]api.Color{{R: 4}}, s.W*s.H)), slices.Repeat([]api.Color{hole}, s.W*s.H)...)
	}
	for w := 1; w <= 300; w++ {
		wantWritten(t, probe.ImageOf(w, 1, probe.Eights(w)))
		wantWritten(t, probe.ImageOf(1, w, probe.Eights(w)))
	}
}

// P15.2: as many colours as pixels, and each sample there is.
func TestEncodeOfGreatImages(t *testing.T) {
	t.Parallel()
	for _, m := range []api.Image{probe.ImageOf(256, 256, probe.Eights(65536)), probe.Image(1, 256, 256), probe.EachSample(0), probe.EachSample(3)} {
		if _, others := wantWritten(t, m); others == 0 {
			t.Error("no pixel has another colour")
		}
	}
	for plane := range 4 {
		m := probe.EachSample(plane)
		for i := range m.Pix {
			if i%4 != plane {
				m.Pix[i] = greatest
			}
		}
		if _, others := wantWritten(t, m); others > 0 {
			t.Error("not each pixel has its own colour:", plane, others)
		}
	}
}

// P15.2, P2: what was read is written and read again as it was.
func TestThereAndBack(t *testing.T) {
	t.Parallel()
	files, holes := smallFiles()
	for i, f := range files {
		m := f.image(holes[i])
		wantBack(t, m, probe.ColorsOf(m)...)
	}
	for seed := range uint32(40) {
		m := probe.Image(seed, 30, 20)
		probe.Coarsen(m, seed)
		b, _ := wantWritten(t, m)
		read, _ := gif.Decode(b, plenty)
		again, others := wantWritten(t, read)
		if others > 0 {
			t.Fatal(seed, others)
		}
		wantImage(t, again, plenty, read)
	}
}

// P15.2: what is alike takes little room; a file ends with what ends one.
func TestEncodeRoom(t *testing.T) {
	flat := probe.ImageOf(256, 256, slices.Repeat([]api.Color{red}, 65536))
	for _, x := range []struct {
		m    api.Image
		most int
	}{{flat, 1000}, {probe.Row(white), 40}, {probe.Row(hole), 50}, {probe.Image(1, 256, 256), 100000}} {
		b, e := gif.Encode(x.m)
		if e != api.OK || len(b) > x.most || !bytes.HasSuffix(b, []byte{0, 59}) {
			t.Error(len(b), x.most, e)
		}
		// All that is there is the picture's, up to that byte.
		want, _ := gif.Decode(b, plenty)
		wantImage(t, b[:len(b)-1], plenty, want)
		wantBroken(t, b[:len(b)-2])
	}
}

// P15.2: an image that isn't good.
func TestEncodeOfNotGood(t *testing.T) {
	for _, m := range probe.BadImages() {
		if b, e := gif.Encode(m); e != api.ErrImage || len(b) != 0 {
			t.Fatal(probe.Told(m), told(b), e)
		}
	}
}
