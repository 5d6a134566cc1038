package png_test

import (
	"encoding/binary"
	"slices"
	"strconv"
	"testing"

	"darkroom/api"
	"darkroom/chunk"
	"darkroom/deflate"
	"darkroom/png"
	"darkroom/probe"
)

const (
	greatest = 65535
	// plenty is as many pixels as an image may have.
	plenty = api.MaxPixels
)

// Where the numbers of a head stand.
const (
	atWidth, atHeight, atDepth, atColour, atPacking, atFiltering, atOrder = 0, 4, 8, 9, 10, 11, 12
)

// colours are those that there are, by their numbers.
func colours() []int { return []int{0, 2, 3, 4, 6} }

// depths are those of a colour.
func depths(colour int) []int {
	switch colour {
	case 0:
		return []int{1, 2, 4, 8, 16}
	case 3:
		return []int{1, 2, 4, 8}
	}
	return []int{8, 16}
}

// planes are how many samples a pixel of a colour has.
func planes(colour int) int { return map[int]int{0: 1, 2: 3, 3: 1, 4: 2, 6: 4}[colour] }

// A file tells what stands in one.
type file struct {
	width, height, depth, colour, order int
	palette, clear                      []byte // none, if nil
	samples                             []int  // of all pixels, row by row
	kinds                               []int  // of the rows' filters, by turns; 0, if nil
	fill                                byte   // the last bits of rows
}

// head answers the first chunk.
func (f file) head() api.Chunk {
	b := binary.BigEndian.AppendUint32(nil, uint32(f.width))
	b = binary.BigEndian.AppendUint32(b, uint32(f.height))
	return api.Chunk{Type: "IHDR", Data: append(b, byte(f.depth), byte(f.colour), 0, 0, byte(f.order))}
}

// turns tells by which pass each place of eight by eight is told.
func turns() []string {
	return []string{"16462646", "77777777", "56565656", "77777777", "36463646", "77777777", "56565656", "77777777"}
}

// parts answers the places of a picture, row by row, pass by pass.
func parts(w, h, order int) [][][]api.Point {
	list := make([][][]api.Point, 7)
	for pass := range list {
		for y := range h {
			var row []api.Point
			for x := range w {
				turn := int(turns()[y%8][x%8] - '1')
				if order == 0 {
					turn = 0
				}
				if turn == pass {
					row = append(row, api.Point{X: x, Y: y})
				}
			}
			if row != nil {
				list[pass] = append(list[pass], row)
			}
		}
	}
	return list
}

// rows answers the filtered rows of all passes.
func (f file) rows() []byte {
	var b []byte
	n := planes(f.colour)
	for _, part := range parts(f.width, f.height, f.order) {
		var rows []byte
		for _, row := range part {
			var list []int
			for _, p := range row {
				at := n * (p.Y*f.width + p.X)
				list = append(list, f.samples[at:at+n]...)
			}
			rows = append(rows, packed(list, f.depth, f.fill)...)
		}
		if part != nil {
			b = append(b, filtered(rows, len(rows)/len(part), max(n*f.depth/8, 1), f.kinds)...)
		}
	}
	return b
}

// packed answers the bytes of a row's numbers of so many bits, with these in the
// last ones.
func packed(list []int, depth int, fill byte) []byte {
	var b []byte
	if depth == 16 {
		for _, v := range list {
			b = append(b, byte(v>>8), byte(v))
		}
		return b
	}
	for part := range slices.Chunk(list, 8/depth) {
		x := int(fill)
		for i, v := range part {
			low := 8 - depth*(i+1)
			x = x>>(low+depth)<<(low+depth) | v<<low | x&(1<<low-1)
		}
		b = append(b, byte(x))
	}
	return b
}

// filtered answers rows filtered, each by a kind of its own, those of kinds by
// turns.
func filtered(rows []byte, width, bpp int, kinds []int) []byte {
	if kinds == nil {
		kinds = []int{0}
	}
	b := make([]byte, len(rows)/width*(width+1))
	for i, kind := range kinds {
		all, e := chunk.Filter(rows, width, bpp, kind)
		if e != api.OK {
			panic(e)
		}
		for y := i; y < len(rows)/width; y += len(kinds) {
			copy(b[y*(width+1):], all[y*(width+1):(y+1)*(width+1)])
		}
	}
	return b
}

// chunks answers a whole file's.
func (f file) chunks() []api.Chunk {
	list := []api.Chunk{f.head()}
	if f.palette != nil {
		list = append(list, api.Chunk{Type: "PLTE", Data: f.palette})
	}
	if f.clear != nil {
		list = append(list, api.Chunk{Type: "tRNS", Data: f.clear})
	}
	return append(list, pixels(f.rows()), end())
}

func (f file) bytes() []byte { return bytesOf(f.chunks()...) }

// pixels answers filtered rows as the chunk of them.
func pixels(rows []byte) api.Chunk { return api.Chunk{Type: "IDAT", Data: zipped(rows)} }

func end() api.Chunk { return api.Chunk{Type: "IEND"} }

// zipped answers what zlib makes of bytes.
func zipped(b []byte) []byte {
	z, e := deflate.Zlib(b, 1)
	if e != api.OK {
		panic(e)
	}
	return z
}

// bytesOf answers chunks as a file, whether they may be one or not.
func bytesOf(cs ...api.Chunk) []byte {
	b := []byte("\x89PNG\r\n\x1A\n")
	for _, c := range cs {
		alone := []api.Chunk{c}
		after := 0
		if c.Type != "IEND" {
			alone, after = append(alone, end()), 12
		}
		one, e := chunk.Join(alone)
		if e != api.OK {
			panic(c.Type)
		}
		b = append(b, one[8:len(one)-after]...)
	}
	return b
}

// with answers chunks with others put in at a place.
func with(cs []api.Chunk, at int, more ...api.Chunk) []api.Chunk {
	return slices.Insert(slices.Clone(cs), at, more...)
}

// image answers what a file is, told from its samples.
func (f file) image() api.Image {
	var all []api.Color
	for s := range slices.Chunk(f.samples, planes(f.colour)) {
		all = append(all, f.color(s))
	}
	return probe.ImageOf(f.width, f.height, all)
}

// color answers what the samples of a pixel are.
func (f file) color(s []int) api.Color {
	if f.colour == 3 {
		entry := f.palette[3*s[0]:]
		c := api.Color{R: 257 * uint16(entry[0]), G: 257 * uint16(entry[1]), B: 257 * uint16(entry[2]), A: greatest}
		if s[0] < len(f.clear) {
			c.A = 257 * uint16(f.clear[s[0]])
		}
		return c
	}
	up := func(i int) uint16 { return probe.Up(s[i], 1<<f.depth-1) }
	c := api.Color{R: up(0), G: up(0), B: up(0), A: greatest}
	if f.colour == 2 || f.colour == 6 {
		c.G, c.B = up(1), up(2)
	}
	if f.colour >= 4 {
		c.A = up(len(s) - 1)
	}
	if f.clear != nil && slices.Equal(packed(s, 16, 0), f.clear) {
		c.A = 0
	}
	return c
}

// noisy answers a file of a size whose samples look like none in particular, with
// a palette of all entries, if it's of colour 3.
func noisy(seed uint32, w, h, depth, colour int) file {
	f := file{width: w, height: h, depth: depth, colour: colour}
	b := probe.Noise(seed, 2*w*h*planes(colour))
	for i := range len(b) / 2 {
		f.samples = append(f.samples, (256*int(b[2*i])+int(b[2*i+1]))>>(16-depth))
	}
	if colour == 3 {
		f.palette = probe.Noise(seed+1, 3<<depth)
	}
	return f
}

// dot answers a grey pixel of 32896 as chunks.
func dot() []api.Chunk {
	return file{width: 1, height: 1, depth: 8, samples: []int{128}}.chunks()
}

func dotImage() api.Image { return probe.Greys(1, 1, 32896) }

// wantImage wants an image out of a file.
func wantImage(t *testing.T, b []byte, most int, want api.Image) {
	m, e := png.Decode(b, most)
	if s := probe.Other(m, e, want, api.OK); s != "" {
		t.Helper()
		t.Fatalf("Decode(%s, %d) = %s", told(b), most, s)
	}
}

// wantFault wants an error of a file, and nothing beside it.
func wantFault(t *testing.T, b []byte, most int, want api.Errno) {
	m, e := png.Decode(b, most)
	if s := probe.Other(m, e, api.Image{}, want); s != "" {
		t.Helper()
		t.Fatalf("Decode(%s, %d) = %s", told(b), most, s)
	}
}

// wantMalformed wants that of chunks as a file, however few pixels there may be.
func wantMalformed(t *testing.T, cs ...api.Chunk) {
	t.Helper()
	wantFault(t, bytesOf(cs...), plenty, api.ErrMalformed)
	wantFault(t, bytesOf(cs...), 0, api.ErrMalformed)
}

// wantBroken wants pixels to be malformed that aren't too many.
func wantBroken(t *testing.T, cs ...api.Chunk) {
	t.Helper()
	wantFault(t, bytesOf(cs...), plenty, api.ErrMalformed)
	wantFault(t, bytesOf(cs...), 0, api.ErrLimit)
}

// wantUnsupported wants that of chunks as a file.
func wantUnsupported(t *testing.T, cs ...api.Chunk) {
	t.Helper()
	wantFault(t, bytesOf(cs...), plenty, api.ErrUnsupported)
	wantFault(t, bytesOf(cs...), 0, api.ErrUnsupported)
}

// told tells a file chunk by chunk.
func told(b []byte) string {
	cs, e := chunk.Split(b)
	if e != api.OK {
		return probe.Short(b)
	}
	var s string
	for _, c := range cs[:min(len(cs), 20)] {
		s += "[" + c.Type + " " + strconv.Itoa(len(c.Data)) + " " + probe.Short(c.Data) + "]"
	}
	return s
}
