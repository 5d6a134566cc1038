package png_test

import (
	"slices"
	"testing"

	"darkroom/api"
	"darkroom/inflate"
)

// P13.1: every sample of each colour and depth, as each of a pixel's.
func TestEachSample(t *testing.T) {
	t.Parallel()
	for _, colour := range colours() {
		for _, depth := range depths(colour) {
			n := 1 << depth
			w := min(n, 256)
			for plane := range planes(colour) {
				f := noisy(uint32(plane), w, n/w, depth, colour)
				for v := range n {
					f.samples[v*planes(colour)+plane] = v
				}
				for order := range 2 {
					f.order = order
					wantImage(t, f.bytes(), n, f.image())
				}
			}
		}
	}
}

// P13.1: a pixel of each colour, told sample by sample.
func TestPixelsKnown(t *testing.T) {
	for _, c := range []struct {
		f    file
		row  []byte
		want []uint16
	}{
		{file{width: 3, depth: 1}, []byte{0xBF}, []uint16{65535, 65535, 65535, 65535, 0, 0, 0, 65535, 65535, 65535, 65535, 65535}},
		{file{width: 2, depth: 2}, []byte{0x6F}, []uint16{21845, 21845, 21845, 65535, 43690, 43690, 43690, 65535}},
		{file{width: 3, depth: 4}, []byte{0x1E, 0x80}, []uint16{4369, 4369, 4369, 65535, 61166, 61166, 61166, 65535, 34952, 34952, 34952, 65535}},
		{file{width: 1, depth: 16}, []byte{1, 2}, []uint16{258, 258, 258, 65535}},
		{file{width: 1, depth: 8, colour: 2}, []byte{1, 2, 3}, []uint16{257, 514, 771, 65535}},
		{file{width: 1, depth: 16, colour: 2}, []byte{1, 2, 3, 4, 5, 6}, []uint16{258, 772, 1286, 65535}},
		{file{width: 2, depth: 1, colour: 3, palette: []byte{1, 2, 3, 4, 5, 6}}, []byte{0x7F}, []uint16{257, 514, 771, 65535, 1028, 1285, 1542, 65535}},
		{file{width: 2, depth: 4, colour: 3, palette: []byte{1, 2, 3, 4, 5, 6}}, []byte{0x10}, []uint16{1028, 1285, 1542, 65535, 257, 514, 771, 65535}},
		{file{width: 1, depth: 8, colour: 4}, []byte{1, 2}, []uint16{257, 257, 257, 514}},
		{file{width: 1, depth: 16, colour: 4}, []byte{1, 2, 3, 4}, []uint16{258, 258, 258, 772}},
		{file{width: 1, depth: 8, colour: 6}, []byte{1, 2, 3, 4}, []uint16{257, 514, 771, 1028}},
		{file{width: 1, depth: 16, colour: 6}, []byte{1, 2, 3, 4, 5, 6, 7, 8}, []uint16{258, 772, 1286, 1800}},
	} {
		c.f.height = 1
		cs := []api.Chunk{c.f.head(), pixels(append([]byte{0}, c.row...)), end()}
		if c.f.palette != nil {
			cs = with(cs, 1, api.Chunk{Type: "PLTE", Data: c.f.palette})
		}
		wantImage(t, bytesOf(cs...), 3, api.Image{W: c.f.width, H: 1, Pix: c.want})
	}
}

// P13.1: each kind of filter, of each colour and depth, rows of all kinds one behind
// the other, interlaced and not.
func TestFilters(t *testing.T) {
	t.Parallel()
	for _, colour := range colours() {
		for _, depth := range depths(colour) {
			for kind := range 5 {
				for order := range 2 {
					f := noisy(uint32(kind), 13, 11, depth, colour)
					f.order = order
					f.kinds = []int{kind}
					wantImage(t, f.bytes(), 143, f.image())
					f.kinds = []int{kind, 4, 3, 2, 1, 0}
					wantImage(t, f.bytes(), 143, f.image())
				}
			}
		}
	}
}

// P13.1: a row's filter that is none, in whatever row it stands.
func TestFiltersThatAreNone(t *testing.T) {
	for order := range 2 {
		f := noisy(1, 5, 5, 8, 4)
		f.order = order
		at := 0
		for _, part := range parts(5, 5, order) {
			for _, row := range part {
				rows := f.rows()
				for _, kind := range []byte{5, 6, 7, 16, 128, 252, 255} {
					rows[at] = kind
					wantBroken(t, f.head(), pixels(rows), end())
				}
				at += 1 + 2*len(row)
			}
		}
	}
}

// P13.1: sizes up to some passes' each way, interlaced and not, of all colours and
// depths; a pass without a pixel has no rows.
func TestPasses(t *testing.T) {
	t.Parallel()
	for w := 1; w <= 17; w++ {
		for h := 1; h <= 17; h++ {
			for _, colour := range colours() {
				for _, depth := range depths(colour) {
					if w*h > 100 && (w+h+depth)%4 != 0 {
						continue
					}
					for order := range 2 {
						f := noisy(uint32(w+h), w, h, depth, colour)
						f.order, f.kinds = order, []int{1, 4, 2, 3}
						wantImage(t, f.bytes(), w*h, f.image())
					}
				}
			}
		}
	}
}

// P13.1: the rows' last bits may be whatever they are.
func TestLastBits(t *testing.T) {
	for _, colour := range []int{0, 3} {
		for _, depth := range []int{1, 2, 4} {
			for w := 1; w <= 9; w++ {
				for _, fill := range []byte{1, 85, 170, 255} {
					for order := range 2 {
						f := noisy(uint32(w), w, 3, depth, colour)
						want := f.image()
						f.fill, f.order = fill, order
						wantImage(t, f.bytes(), 3*w, want)
					}
				}
			}
		}
	}
	// They are no index, even where it would have no entry.
	f := file{width: 3, height: 1, depth: 2, colour: 3, palette: []byte{1, 2, 3}, samples: []int{0, 0, 0}, fill: 3}
	wantImage(t, f.bytes(), 3, f.image())
}

// P13.1: there are just the rows' bytes, neither more nor fewer.
func TestRowsLength(t *testing.T) {
	for _, colour := range colours() {
		for _, depth := range depths(colour) {
			for order := range 2 {
				f := noisy(1, 5, 3, depth, colour)
				f.order = order
				rows := append(f.rows(), make([]byte, 60)...)
				right := len(rows) - 60
				cs := f.chunks()
				at := len(cs) - 2
				for n := range rows {
					cs[at] = pixels(rows[:n])
					if n == right {
						wantImage(t, bytesOf(cs...), 15, f.image())
					} else {
						wantBroken(t, cs...)
					}
				}
			}
		}
	}
}

// P13.1: the rows of a picture aren't those of it interlaced, where they are more.
func TestOrdersLength(t *testing.T) {
	f := noisy(1, 9, 9, 8, 0)
	for order := range 2 {
		f.order = order
		rows := f.rows()
		f.order = 1 - order
		wantBroken(t, f.head(), pixels(rows), end())
	}
	// Of a row or a column there may be as many.
	f = noisy(1, 1, 1, 8, 6)
	rows := f.rows()
	f.order = 1
	wantImage(t, bytesOf(f.head(), pixels(rows), end()), 1, f.image())
}

// P13.1: the data are zlib's; each byte of it may be wrong, and it may end too early;
// what stands behind it isn't looked at.
func TestZlib(t *testing.T) {
	f := noisy(1, 3, 3, 8, 2)
	rows := f.rows()
	z := zipped(rows)
	cs := f.chunks()
	for i := range z {
		cs[1].Data = z[:i]
		wantBroken(t, cs...)
		for x := 1; x < 256; x++ {
			b := slices.Clone(z)
			b[i] ^= byte(x)
			out, e := inflate.Zlib(b, 1000)
			cs[1].Data = b
			if e == api.OK && slices.Equal(out, rows) {
				wantImage(t, bytesOf(cs...), 9, f.image())
			} else {
				wantBroken(t, cs...)
			}
		}
	}
	for _, behind := range []string{"\x00", "\xFF", string(z), "any text at all"} {
		cs[1].Data = append(slices.Clone(z), behind...)
		wantImage(t, bytesOf(cs...), 9, f.image())
	}
	cs[1].Data = nil
	wantBroken(t, cs...)
	cs[1].Data = rows
	wantBroken(t, cs...)
}

// P13.1: an index has an entry, wherever it stands.
func TestIndices(t *testing.T) {
	for _, depth := range depths(3) {
		for entries := 1; entries < 1<<depth; entries++ {
			if entries > 20 && entries%50 != 0 && entries < 250 {
				continue
			}
			for order := range 2 {
				for at := range 6 {
					f := file{width: 3, height: 2, depth: depth, colour: 3, order: order, palette: palette(entries).Data, samples: make([]int, 6)}
					f.samples[at] = entries - 1
					wantImage(t, f.bytes(), 6, f.image())
					for _, index := range []int{entries, 1<<depth - 1} {
						f.samples[at] = index
						wantBroken(t, f.chunks()...)
					}
				}
			}
		}
	}
}
