package png_test

import (
	"math"
	"slices"
	"testing"

	"darkroom/api"
	"darkroom/chunk"
	"darkroom/png"
	"darkroom/probe"
)

// written are the colours that files are written of.
func written() []int { return []int{0, 2, 4, 6} }

// plainLuma is the grey of a pixel.
func plainLuma(c api.Color) uint16 {
	return uint16((19595*int(c.R) + 38470*int(c.G) + 7471*int(c.B) + 32768) >> 16)
}

// rounded answers what an image is when it was written and read again.
func rounded(m api.Image, colour, depth int) api.Image {
	top := 1<<depth - 1
	var all []api.Color
	for _, c := range probe.ColorsOf(m) {
		if colour == 0 || colour == 4 {
			v := plainLuma(c)
			c.R, c.G, c.B = v, v, v
		}
		if colour == 0 || colour == 2 {
			c.A = greatest
		}
		r := func(s uint16) uint16 { return probe.Up(probe.Down(s, top), top) }
		all = append(all, api.Color{R: r(c.R), G: r(c.G), B: r(c.B), A: r(c.A)})
	}
	return probe.ImageOf(m.W, m.H, all)
}

// wantBack wants an image to come back from a file of it, as it's rounded.
func wantBack(t *testing.T, m api.Image, colour, depth int) {
	t.Helper()
	b, e := png.Encode(m, colour, depth)
	if e != api.OK {
		t.Fatalf("Encode(%s, %d, %d): %d", probe.Told(m), colour, depth, e)
	}
	want := rounded(m, colour, depth)
	wantImage(t, b, m.W*m.H, want)
	if m.W*m.H < 1000 {
		if e := wantAsTold(t, b, m.W*m.H); e != api.OK {
			t.Fatal(e)
		}
	}
	if colour == 6 && depth == 16 && !slices.Equal(want.Pix, m.Pix) {
		t.Fatal("it isn't as it was")
	}
}

// P13.2: samples told one by one.
func TestEncodeKnown(t *testing.T) {
	m := api.Image{W: 2, H: 1, Pix: []uint16{1, 2, 3, 4, 65535, 0, 129, 40000}}
	for _, c := range []struct {
		colour, depth int
		want          []uint16
	}{
		{0, 8, []uint16{0, 0, 0, 65535, 19532, 19532, 19532, 65535}},
		{0, 16, []uint16{2, 2, 2, 65535, 19609, 19609, 19609, 65535}},
		{2, 8, []uint16{0, 0, 0, 65535, 65535, 0, 257, 65535}},
		{2, 16, []uint16{1, 2, 3, 65535, 65535, 0, 129, 65535}},
		{4, 8, []uint16{0, 0, 0, 0, 19532, 19532, 19532, 40092}},
		{4, 16, []uint16{2, 2, 2, 4, 19609, 19609, 19609, 40000}},
		{6, 8, []uint16{0, 0, 0, 0, 65535, 0, 257, 40092}},
		{6, 16, []uint16{1, 2, 3, 4, 65535, 0, 129, 40000}},
	} {
		b, e := png.Encode(m, c.colour, c.depth)
		if e != api.OK {
			t.Fatal(c, e)
		}
		wantImage(t, b, 2, api.Image{W: 2, H: 1, Pix: c.want})
	}
}

// P13.2: a file says what it was asked for: the size, the depth, the colour.
func TestEncodeHead(t *testing.T) {
	for i, s := range append(probe.Sizes()[:9], probe.Size{W: 300, H: 2}, probe.Size{W: 2, H: 4095}) {
		m := probe.Image(uint32(i), s.W, s.H)
		for _, colour := range written() {
			for _, depth := range []int{8, 16} {
				b, e := png.Encode(m, colour, depth)
				cs, e2 := chunk.Split(b)
				if e != api.OK || e2 != api.OK {
					t.Fatal(s, colour, depth, e, e2)
				}
				want := file{width: s.W, height: s.H, depth: depth, colour: colour}.head()
				if cs[0].Type != want.Type || !slices.Equal(cs[0].Data, want.Data) {
					t.Fatal(s, colour, depth, cs[0])
				}
			}
		}
	}
}

// P13.2, P13.3, P2: what was written is read as the image, rounded; with colour 6 and
// depth 16 as it was.
func TestThereAndBack(t *testing.T) {
	t.Parallel()
	for i, s := range probe.Sizes() {
		for k, m := range []api.Image{
			probe.Image(uint32(i), s.W, s.H),
			probe.ImageOf(s.W, s.H, slices.Repeat(probe.Colors(uint32(i), 1), s.W*s.H)),
		} {
			for _, colour := range written() {
				for _, depth := range []int{8, 16} {
					if s.W*s.H > 10000 && (i+k+colour+depth/8)%3 > 0 {
						continue
					}
					wantBack(t, m, colour, depth)
					if k == 0 && s.W*s.H < 10000 {
						want := rounded(m, colour, depth)
						b, _ := png.Encode(want, colour, depth)
						wantImage(t, b, s.W*s.H, want)
					}
				}
			}
		}
	}
}

// ramps are images whose rows are best filtered in different ways.
func ramps(w, h int) api.Image {
	var all []api.Color
	dice := probe.Noise(7, w*h)
	for y := range h {
		for x := range w {
			v := []int{300 * x, 200 * y, 100 * (x + y), 256 * int(dice[y*w+x]), 9000}[y/4%5]
			all = append(all, api.Color{R: uint16(v), G: uint16(2 * v), B: uint16(v + 5000*y), A: uint16(greatest - v)})
		}
	}
	return probe.ImageOf(w, h, all)
}

// P13.2: rows of many kinds, so that they are filtered in different ways.
func TestEncodeFilters(t *testing.T) {
	t.Parallel()
	met := map[byte]int{}
	for w := 1; w <= 60; w += 7 {
		m := ramps(w, 40)
		for _, colour := range written() {
			for _, depth := range []int{8, 16} {
				wantBack(t, m, colour, depth)
				for _, row := range filteredRows(t, m, colour, depth) {
					met[row[0]]++
				}
			}
		}
	}
	for kind := range byte(5) {
		if met[kind] < 20 {
			t.Error("rows are filtered by but few kinds:", met)
		}
	}
}

// filteredRows answers the rows in a file of an image.
func filteredRows(t *testing.T, m api.Image, colour, depth int) [][]byte {
	b, _ := png.Encode(m, colour, depth)
	cs, e := chunk.Split(b)
	if e != api.OK {
		t.Fatal(e)
	}
	var data []byte
	for _, c := range cs[1:] {
		data = append(data, c.Data...)
	}
	rows, err := unzipped(data)
	if err != nil {
		t.Fatal(err)
	}
	return slices.Collect(slices.Chunk(rows, len(rows)/m.H))
}

// slope answers an image that grows brighter to the right and downwards, evenly.
func slope(w, h int) api.Image {
	var list []uint16
	for y := range h {
		for x := range w {
			list = append(list, uint16(131*x+77*y))
		}
	}
	return probe.Greys(w, h, list...)
}

// P13.2: what is alike all over, or grows evenly, takes little room; what looks like
// none in particular not much more than its samples.
func TestEncodeRoom(t *testing.T) {
	flat := probe.ImageOf(256, 256, slices.Repeat(probe.Colors(1, 1), 1<<16))
	for _, c := range []struct {
		m    api.Image
		most int
	}{{flat, 2000}, {slope(256, 256), 5000}, {probe.Image(1, 256, 256), 8<<16 + 600}} {
		if b, e := png.Encode(c.m, 6, 16); e != api.OK || len(b) > c.most {
			t.Error(len(b), c.most, e)
		}
	}
}

// P13.2: every sample, as each of a pixel's.
func TestEncodeOfEachSample(t *testing.T) {
	t.Parallel()
	for k := range 4 {
		m := probe.EachSample(k)
		for _, colour := range written() {
			for _, depth := range []int{8, 16} {
				b, _ := png.Encode(m, colour, depth)
				wantImage(t, b, plenty, rounded(m, colour, depth))
			}
		}
	}
}

// wantNoFile wants an image not to be written.
func wantNoFile(t *testing.T, m api.Image, colour, depth int, want api.Errno) {
	if b, e := png.Encode(m, colour, depth); e != want || len(b) != 0 {
		t.Helper()
		t.Fatalf("Encode(%s, %d, %d) = %s, %d; want none, %d", probe.Told(m), colour, depth, told(b), e, want)
	}
}

// P13.2: an image that isn't good, with a colour and a depth that may be or not.
func TestEncodeOfNotGood(t *testing.T) {
	for _, m := range probe.BadImages() {
		for _, colour := range []int{0, 3, 6, -1} {
			for _, depth := range []int{8, 16, 4, 0} {
				wantNoFile(t, m, colour, depth, api.ErrImage)
			}
		}
	}
}

// P13.2: colours and depths that may not be.
func TestEncodeRange(t *testing.T) {
	m := probe.Image(1, 2, 1)
	numbers := append(probe.Far(), math.MinInt32, -6, -2, -1, 0, 1, 2, 3, 4, 5, 6, 7, 8, 9, 15, 16, 17, 24, 32, 256, 258, 260, 262, 264, 272)
	for _, colour := range numbers {
		for _, depth := range numbers {
			if slices.Contains(written(), colour) && (depth == 8 || depth == 16) {
				wantBack(t, m, colour, depth)
			} else {
				wantNoFile(t, m, colour, depth, api.ErrRange)
			}
		}
	}
}
