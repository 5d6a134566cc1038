package bmp_test

import (
	"fmt"
	"slices"
	"testing"

	"darkroom/api"
	"darkroom/bmp"
	"darkroom/probe"
)

// A plain reader goes through the chapter sentence by sentence, and through a file
// bit by bit.
type plain struct {
	b                    []byte
	second, place        int
	width, height        int
	down                 bool
	depth, packing, most int
	masks                [4]int
	palette              []api.Color
}

func plainDecode(b []byte, most int) (api.Image, api.Errno) {
	return probe.Read(func() api.Image {
		probe.Must(len(b) <= 4194304, api.ErrLimit)
		p := &plain{b: b, most: most}
		p.head()
		p.colors()
		probe.Must(p.width <= 4096 && p.height <= 4096, api.ErrLimit)
		probe.Must(p.width*p.height <= 65536 && p.width*p.height <= most, api.ErrLimit)
		probe.Must(p.place <= len(b), api.ErrMalformed)
		numbers := p.rows
		if p.packing == 1 || p.packing == 2 {
			numbers = p.runs
		}
		list := numbers()
		var all []api.Color
		for y := range p.height {
			if !p.down {
				y = p.height - 1 - y
			}
			for x := range p.width {
				all = append(all, p.color(list[api.Point{X: x, Y: y}]))
			}
		}
		return probe.ImageOf(p.width, p.height, all)
	})
}

func (p *plain) number(at, size int) int {
	probe.Must(at+size <= len(p.b), api.ErrMalformed)
	v := 0
	for i := range size {
		v = 256*v + int(p.b[at+size-1-i])
	}
	return v
}

func (p *plain) signed(at int) int {
	v := p.number(at, 4)
	if v >= 1<<31 {
		v -= 1 << 32
	}
	return v
}

func (p *plain) head() {
	probe.Must(len(p.b) >= 18 && p.b[0] == 66 && p.b[1] == 77, api.ErrMalformed)
	p.place = p.number(10, 4)
	p.second = p.number(14, 4)
	probe.Must(p.second != 12 && p.second != 16 && p.second != 64, api.ErrUnsupported)
	probe.Must(slices.Contains(seconds(), p.second), api.ErrMalformed)
	probe.Must(len(p.b) >= 14+p.second, api.ErrMalformed)
	p.width = p.signed(18)
	probe.Must(p.width >= 1, api.ErrMalformed)
	p.height = p.signed(22)
	probe.Must(p.height != 0, api.ErrMalformed)
	if p.height < 0 {
		p.height, p.down = -p.height, true
	}
	probe.Must(p.number(26, 2) == 1, api.ErrMalformed)
	p.depth = p.number(28, 2)
	probe.Must(slices.Contains([]int{1, 4, 8, 16, 24, 32}, p.depth), api.ErrMalformed)
	p.packing = p.number(30, 4)
	probe.Must(p.packing != 4 && p.packing != 5, api.ErrUnsupported)
	fits := map[int][]int{0: {1, 4, 8, 16, 24, 32}, 1: {8}, 2: {4}, 3: {16, 32}, 6: {16, 32}}
	probe.Must(slices.Contains(fits[p.packing], p.depth), api.ErrMalformed)
	probe.Must(!p.down || p.packing != 1 && p.packing != 2, api.ErrMalformed)
}

// colors reads a palette, or masks, if there is such.
func (p *plain) colors() {
	if p.depth < 16 {
		count := p.number(46, 4)
		all := []int{1: 2, 4: 16, 8: 256}[p.depth]
		probe.Must(count <= all, api.ErrMalformed)
		if count == 0 {
			count = all
		}
		for i := range count {
			at := 14 + p.second + 4*i
			p.number(at, 4)
			up := func(k int) uint16 { return 257 * uint16(p.b[at+k]) }
			p.palette = append(p.palette, api.Color{R: up(2), G: up(1), B: up(0), A: greatest})
		}
		return
	}
	switch {
	case p.packing == 0 && p.depth == 16:
		p.masks = [4]int{31 << 10, 31 << 5, 31}
		return
	case p.packing == 0:
		p.masks = [4]int{255 << 16, 255 << 8, 255}
		return
	}
	n := 4
	if p.packing == 3 && p.second <= 52 {
		n = 3
	}
	probe.Must(p.packing != 6 || p.second != 52, api.ErrMalformed)
	for i := range n {
		p.masks[i] = p.number(54+4*i, 4)
	}
	probe.Must(plainMasks(p.masks, p.depth), api.ErrMalformed)
}

// setBits are the places of the bits that are set, from the lowest on.
func setBits(mask int) []int {
	var list []int
	for i := range 32 {
		if mask>>i&1 == 1 {
			list = append(list, i)
		}
	}
	return list
}

// plainMasks says whether there may be such masks.
func plainMasks(masks [4]int, depth int) bool {
	met := map[int]int{}
	for i, mask := range masks {
		list := setBits(mask)
		if len(list) == 0 && i < 3 || len(list) > 16 {
			return false
		}
		for k, place := range list {
			met[place]++
			if place != list[0]+k || met[place] > 1 || place >= depth {
				return false
			}
		}
	}
	return true
}

func (p *plain) color(number int) api.Color {
	if p.depth < 16 {
		probe.Must(number < len(p.palette), api.ErrMalformed)
		return p.palette[number]
	}
	s := func(mask int) uint16 {
		v, top := 0, 0
		for i, place := range setBits(mask) {
			v += number >> place & 1 << i
			top += 1 << i
		}
		if top == 0 {
			return greatest
		}
		return probe.Up(v, top)
	}
	return api.Color{R: s(p.masks[0]), G: s(p.masks[1]), B: s(p.masks[2]), A: s(p.masks[3])}
}

// rows answers the numbers of pixels that are in no runs: y counts the file's rows.
func (p *plain) rows() map[api.Point]int {
	list := map[api.Point]int{}
	length := (p.depth*p.width + 7) / 8
	for length%4 != 0 {
		length++
	}
	probe.Must(p.place+length*p.height <= len(p.b), api.ErrMalformed)
	for y := range p.height {
		row := p.b[p.place+length*y:]
		for x := range p.width {
			v := 0
			for i := range p.depth {
				k := x*p.depth + i
				if p.depth < 16 {
					v = 2*v + int(row[k/8])>>(7-k%8)&1
				} else {
					v += int(row[k/8]) >> (k % 8) & 1 << i
				}
			}
			list[api.Point{X: x, Y: y}] = v
		}
	}
	return list
}

// runs answers the numbers of pixels that are in runs.
func (p *plain) runs() map[api.Point]int {
	list, at, pen := map[api.Point]int{}, p.place, api.Point{}
	next := func() int { at++; return p.number(at-1, 1) }
	draw := func(v int) {
		probe.Must(pen.X < p.width && pen.Y < p.height, api.ErrMalformed)
		list[pen] = v
		pen.X++
	}
	// half is one of a byte's two numbers, or of depth 8 the byte.
	half := func(v, i int) int {
		if p.depth == 8 {
			return v
		}
		return []int{v / 16, v % 16}[i%2]
	}
	for {
		n, v := next(), next()
		switch {
		case n > 0:
			for i := range n {
				draw(half(v, i))
			}
		case v == 0:
			pen = api.Point{Y: pen.Y + 1}
		case v == 1:
			return list
		case v == 2:
			pen.X += next()
			pen.Y += next()
		default:
			begin, last := at, 0
			for i := range v {
				if p.depth == 8 || i%2 == 0 {
					last = next()
				}
				draw(half(last, i))
			}
			if (at-begin)%2 == 1 {
				next()
			}
		}
		probe.Must(pen.X <= p.width && pen.Y <= p.height, api.ErrMalformed)
	}
}

// wantAsTold wants of a file what the plain reader makes of it.
func wantAsTold(t *testing.T, b []byte, most int) api.Errno {
	want, wantE := plainDecode(b, most)
	m, e := bmp.Decode(b, most)
	if s := probe.Other(m, e, want, wantE); s != "" {
		t.Helper()
		t.Fatalf("Decode(%s, %d) = %s", told(b), most, s)
	}
	return e
}

// smallFiles are good ones of all kinds, with few pixels.
func smallFiles() [][]byte {
	var all [][]byte
	for i, s := range []probe.Size{{1, 1}, {3, 2}, {2, -3}, {9, 1}, {1, -2}} {
		n := s.W * max(s.H, -s.H)
		for k, second := range seconds() {
			noise := probe.Noise(uint32(10*i+k), 4*n+100)
			f := file{second: second, width: s.W, height: s.H}
			add := func(depth, packing, count int, masks, palette []uint32) {
				f.depth, f.packing, f.count, f.masks, f.palette = depth, packing, count, masks, palette
				f.pixels = noise[:(s.W*depth+31)/32*4*max(s.H, -s.H)]
				if palette != nil {
					few := slices.Clone(f.pixels)
					for j := range few {
						few[j] = few[j] & 0x11 * byte((len(palette)-1)%16)
					}
					f.pixels = few
				}
				all = append(all, f.bytes())
			}
			add(1, 0, 0, nil, greyRamp(2))
			add(4, 0, 6, nil, greyRamp(6))
			add(8, 0, 130, nil, greyRamp(130))
			add(16, 0, 7, nil, nil)
			add(24, 0, 0, nil, nil)
			add(32, 0, 0, nil, nil)
			add(16, 3, 0, []uint32{0xF000, 0x7E, 0xF00}, nil)
			add(32, 3, 0, []uint32{0x3FF, 0xFFFF0000, 0x400}, nil)
			if second != 52 {
				add(16, 6, 0, []uint32{0xF, 0xF0, 0xF00, 0xF000}, nil)
				add(32, 6, 0, []uint32{0xFF000000, 0xFF0000, 0xFF00, 0xFF}, nil)
			}
		}
	}
	return append(all, runFiles()...)
}

// runFiles are good ones with runs.
func runFiles() [][]byte {
	var all [][]byte
	for _, second := range []int{40, 108} {
		f := file{second: second, width: 5, height: 3, depth: 8, packing: 1, count: 9, palette: greyRamp(9)}
		for _, pixels := range []string{
			"\x00\x01", "\x05\x01\x00\x00\x02\x08\x00\x03\x01\x02\x03\x00\x00\x00\x05\x07\x00\x01", "\x00\x02\x01\x01\x03\x04\x00\x00\x00\x04\x01\x02\x03\x04\x00\x01",
			"\x00\x00\x00\x00\x00\x00\x00\x01", "\x00\x02\x05\x03\x00\x01", "\x01\x01\x01\x02\x01\x03\x01\x04\x01\x05\x00\x02\x00\x01\x00\x00\x05\x06\x00\x01",
		} {
			f.pixels = []byte(pixels)
			all = append(all, f.bytes())
		}
		f.depth, f.packing, f.count, f.palette = 4, 2, 0, greyRamp(16)
		for _, pixels := range []string{
			"\x00\x01", "\x05\x1F\x00\x00\x02\x8E\x00\x03\x12\x30\x00\x00\x05\x7A\x00\x01", "\x00\x02\x01\x01\x03\x45\x00\x00\x00\x05\x12\x34\x50\xFF\x00\x01",
			"\x00\x04\xAB\xCD\x01\xE0\x00\x00\x00\x00\x00\x00\x00\x01", "\x01\x1F\x01\x2F\x03\x34\x00\x02\x00\x02\x00\x01",
		} {
			f.pixels = []byte(pixels)
			all = append(all, f.bytes())
		}
	}
	return all
}

// P11.1, P3: good files are read as the plain reader reads them.
func TestDecodeSmallFiles(t *testing.T) {
	for _, b := range smallFiles() {
		if e := wantAsTold(t, b, plenty); e != api.OK {
			t.Fatal("no good file:", told(b), e)
		}
	}
}

// P11.1: files, and such with a few bytes changed, against the plain reader.
func TestDecodeChanged(t *testing.T) {
	t.Parallel()
	letters := []byte{0, 1, 2, 3, 4, 5, 6, 7, 8, 9, 12, 16, 24, 32, 40, 52, 54, 56, 64, 66, 70, 108, 124, 127, 128, 240, 255}
	met := map[api.Errno]int{}
	for i, b := range smallFiles() {
		for k := range uint32(700) {
			met[wantAsTold(t, probe.Changed(b, letters, 1000*uint32(i)+k), int(k%13)+1)]++
		}
	}
	if len(met) != 4 || met[api.OK] < 5000 || met[api.ErrMalformed] < 5000 || met[api.ErrLimit] < 5000 || met[api.ErrUnsupported] < 100 {
		t.Error("of some answers there are but few:", fmt.Sprint(met))
	}
}

// P11.1: each two numbers of a head changed at once: of several faults the one
// that is looked for first is answered.
func TestDecodeOfTwoChanges(t *testing.T) {
	t.Parallel()
	type change struct{ at, size, v int }
	changes := []change{{0, 1, 67}, {1, 1, 0}}
	for _, x := range []struct {
		at, size int
		list     []int
	}{
		{atPlace, 4, []int{0, 53, 100, 1 << 20, 1<<32 - 1}},
		{atSecond, 4, []int{0, 12, 16, 40, 41, 52, 56, 64, 108, 124, 1 << 31}},
		{atWidth, 4, []int{0, 1, 2, 4097, 1 << 31, 1<<32 - 1}},
		{atHeight, 4, []int{0, 1, 2, 4097, 1<<32 - 1, 1<<32 - 4097, 1 << 31}},
		{atPlanes, 2, []int{0, 2, 257}},
		{atDepth, 2, []int{0, 1, 2, 4, 8, 16, 24, 32, 264}},
		{atPacking, 4, []int{0, 1, 2, 3, 4, 5, 6, 7, 256, 260}},
		{atCount, 4, []int{0, 1, 2, 3, 16, 17, 257, 1 << 31}},
		{atMasks, 4, []int{0, 1, 5, 0xF0000, 0x1FFFF}},
	} {
		for _, v := range x.list {
			changes = append(changes, change{x.at, x.size, v})
		}
	}
	met := map[api.Errno]int{}
	for _, b := range append(smallFiles()[10:20], runFiles()[1], runFiles()[7]) {
		for _, one := range changes {
			for _, two := range changes {
				all := with(with(b, one.at, one.size, one.v), two.at, two.size, two.v)
				for _, most := range []int{plenty, 5} {
					met[wantAsTold(t, all, most)]++
				}
			}
		}
	}
	if len(met) != 4 || met[api.OK] < 1000 || met[api.ErrMalformed] < 1000 || met[api.ErrLimit] < 1000 || met[api.ErrUnsupported] < 1000 {
		t.Error("of some answers there are but few:", fmt.Sprint(met))
	}
}

// P11.1: runs of few letters, against the plain reader.
func TestDecodeOfRuns(t *testing.T) {
	t.Parallel()
	met := map[api.Errno]int{}
	for seed := range uint32(60000) {
		dice := probe.Noise(seed, 40)
		f := file{second: 40, width: 1 + int(dice[0])%7, height: 1 + int(dice[1])%4, depth: 8, packing: 1, count: 16, palette: greyRamp(16)}
		if seed%2 == 0 {
			f.depth, f.packing, f.count = 4, 2, 0
		}
		for _, x := range dice[3 : 3+int(dice[2])%37] {
			f.pixels = append(f.pixels, []byte{0, 0, 0, 0, 1, 1, 2, 2, 3, 3, 4, 5, 6, 7, 15, 16}[x/16])
		}
		f.pixels = append(f.pixels, 0, 1)
		met[wantAsTold(t, f.bytes(), plenty)]++
	}
	if len(met) != 2 || met[api.OK] < 5000 || met[api.ErrMalformed] < 5000 {
		t.Error("of some answers there are but few:", fmt.Sprint(met))
	}
}
