package gif_test

import (
	"encoding/binary"
	"slices"
	"strconv"
	"testing"

	"darkroom/api"
	"darkroom/gif"
	"darkroom/lzw"
	"darkroom/probe"
)

const (
	greatest = 65535
	// plenty is as many pixels as an image may have.
	plenty = api.MaxPixels
	// noHole stands for no clear index.
	noHole = -1
)

// Where the numbers of a file stand.
const (
	atWidth, atHeight, atFlags, atUnread, atPalette = 6, 8, 10, 11, 13
)

// The colours that tests speak of most.
var (
	black = probe.Eight(0, 0, 0)
	white = probe.Eight(255, 255, 255)
	red   = probe.Eight(255, 0, 0)
	hole  = api.Color{}
)

// A file tells what stands in one. What is nil or nought isn't there.
type file struct {
	width, height int
	palette       []byte   // the screen's
	extras        [][]byte // the blocks ahead of the picture
	place         api.Rect // of the picture; all of the screen, if it is none
	own           []byte   // the picture's palette
	runs          bool     // whether the picture's rows stand in runs
	index         []byte   // of the picture's pixels, row by row from the top
	size          int      // of the codes; 8, if it is 0
	cut           int      // how long the sub-blocks are; 255, if it is 0
	fill          byte     // what isn't looked at
}

// area answers the picture's place.
func (f file) area() api.Rect {
	if f.place == (api.Rect{}) {
		return api.Rect{W: f.width, H: f.height}
	}
	return f.place
}

// paletteFlags answers the flags that tell of a palette.
func (f file) paletteFlags(palette []byte) byte {
	if palette == nil {
		return f.fill & 7
	}
	told := slices.Index([]int{6, 12, 24, 48, 96, 192, 384, 768}, len(palette))
	if told < 0 {
		panic("a palette of " + strconv.Itoa(len(palette)))
	}
	return 128 | byte(told)
}

// head answers what stands ahead of all blocks.
func (f file) head() []byte {
	b := []byte("GIF89a")
	b = binary.LittleEndian.AppendUint16(b, uint16(f.width))
	b = binary.LittleEndian.AppendUint16(b, uint16(f.height))
	b = append(b, f.paletteFlags(f.palette)|f.fill&0x78, f.fill, ^f.fill)
	return append(b, f.palette...)
}

// start answers a picture up to its codes' size.
func (f file) start() []byte {
	b := []byte{44}
	r := f.area()
	for _, v := range []int{r.X, r.Y, r.W, r.H} {
		b = binary.LittleEndian.AppendUint16(b, uint16(v))
	}
	flags := f.paletteFlags(f.own) | f.fill&0x38
	if f.runs {
		flags |= 64
	}
	b = append(b, flags)
	return append(b, f.own...)
}

// codes answers the picture's pixels packed, ahead of which the codes' size stands.
func (f file) codes() []byte {
	size := f.size
	if size == 0 {
		size = 8
	}
	b, e := lzw.GifPack(f.rows(), size)
	if e != api.OK {
		panic(e)
	}
	return append([]byte{byte(size)}, b...)
}

// rows answers the indices in the order in which a file tells them.
func (f file) rows() []byte {
	r := f.area()
	if !f.runs {
		return f.index
	}
	// The turn of each of eight rows.
	const turns = "14342434"
	var b []byte
	for _, turn := range "1234" {
		for y := range r.H {
			if rune(turns[y%8]) == turn {
				b = append(b, f.index[y*r.W:(y+1)*r.W]...)
			}
		}
	}
	return b
}

// picture answers the picture with a size and these codes.
func (f file) picture(size byte, codes []byte) []byte {
	cut := f.cut
	if cut == 0 {
		cut = 255
	}
	return slices.Concat(f.start(), []byte{size}, blocks(codes, cut))
}

// with answers the file with other codes.
func (f file) with(size byte, codes []byte) []byte {
	return slices.Concat(f.head(), slices.Concat(f.extras...), f.picture(size, codes), []byte{59})
}

func (f file) bytes() []byte {
	codes := f.codes()
	return f.with(codes[0], codes[1:])
}

// blocks answers bytes as sub-blocks of at most so many.
func blocks(b []byte, cut int) []byte {
	var all []byte
	for part := range slices.Chunk(b, cut) {
		all = append(append(all, byte(len(part))), part...)
	}
	return append(all, 0)
}

// extra answers a block of a kind, with these sub-blocks.
func extra(kind byte, parts ...string) []byte {
	b := []byte{33, kind}
	for _, part := range parts {
		b = append(append(b, byte(len(part))), part...)
	}
	return append(b, 0)
}

// control answers the block that tells a clear index, or that there is none.
func control(hole int) []byte {
	if hole == noHole {
		return []byte{33, 249, 4, 0, 1, 2, 3, 0}
	}
	return []byte{33, 249, 4, 1, 1, 2, byte(hole), 0}
}

// image answers what a file is, with this clear index.
func (f file) image(clear int) api.Image {
	palette := f.own
	if palette == nil {
		palette = f.palette
	}
	r := f.area()
	list := make([]api.Color, f.width*f.height)
	for i, x := range f.index {
		if int(x) == clear {
			continue
		}
		entry := palette[3*int(x):]
		list[(r.Y+i/r.W)*f.width+r.X+i%r.W] = probe.Eight(int(entry[0]), int(entry[1]), int(entry[2]))
	}
	return probe.ImageOf(f.width, f.height, list)
}

// ramp answers a palette of so many entries, no two alike.
func ramp(n int) []byte {
	var b []byte
	for i := range n {
		b = append(b, byte(i), byte(255-i), byte(37*i))
	}
	return b
}

// noisy answers a file whose pixels look like none in particular, with a palette of
// so many entries.
func noisy(seed uint32, w, h, entries int) file {
	return file{width: w, height: h, palette: probe.Noise(seed, 3*entries), index: probe.Few(seed+1, w*h, entries)}
}

// dot answers a white pixel as a file, told byte by byte.
func dot() []byte {
	return []byte{'G', 'I', 'F', '8', '9', 'a', 1, 0, 1, 0, 128, 0, 0, 0, 0, 0, 255, 255, 255, 44, 0, 0, 0, 0, 1, 0, 1, 0, 0, 2, 2, 76, 1, 0, 59}
}

func dotImage() api.Image { return probe.Row(white) }

// changed answers a file with the byte at a place another one.
func changed(b []byte, at int, x byte) []byte {
	b = slices.Clone(b)
	b[at] = x
	return b
}

// wantImage wants an image out of a file.
func wantImage(t *testing.T, b []byte, most int, want api.Image) {
	m, e := gif.Decode(b, most)
	if s := probe.Other(m, e, want, api.OK); s != "" {
		t.Helper()
		t.Fatalf("Decode(%s, %d) = %s", told(b), most, s)
	}
}

// wantFault wants an error of a file, and nothing beside it.
func wantFault(t *testing.T, b []byte, most int, want api.Errno) {
	m, e := gif.Decode(b, most)
	if s := probe.Other(m, e, api.Image{}, want); s != "" {
		t.Helper()
		t.Fatalf("Decode(%s, %d) = %s", told(b), most, s)
	}
}

// wantMalformed wants a file to be so up to the screen's palette, thus however few
// pixels there may be.
func wantMalformed(t *testing.T, b []byte) {
	t.Helper()
	wantFault(t, b, plenty, api.ErrMalformed)
	wantFault(t, b, 0, api.ErrMalformed)
}

// wantBroken wants a file to be malformed behind that, thus where its pixels aren't
// too many.
func wantBroken(t *testing.T, b []byte) {
	t.Helper()
	wantFault(t, b, plenty, api.ErrMalformed)
	wantFault(t, b, 0, api.ErrLimit)
}

// told tells a file, its head apart.
func told(b []byte) string {
	n := min(len(b), atPalette)
	return probe.Short(b[:n]) + " " + probe.Short(b[n:])
}
