package gif_test

import (
	"fmt"
	"slices"
	"testing"

	"darkroom/api"
	"darkroom/gif"
	"darkroom/lzw"
	"darkroom/probe"
)

// A plain reader goes through the chapter sentence by sentence.
type plain struct {
	b  []byte
	at int
}

func plainDecode(b []byte, most int) (api.Image, api.Errno) {
	return probe.Read(func() api.Image {
		probe.Must(len(b) <= 4194304, api.ErrLimit)
		p := &plain{b: b}
		begin := p.text(6)
		probe.Must(begin == "GIF87a" || begin == "GIF89a", api.ErrMalformed)
		w, h := p.pair(), p.pair()
		probe.Must(w >= 1 && h >= 1, api.ErrMalformed)
		flags := p.byte()
		p.text(2)
		palette := p.palette(flags)
		probe.Must(w <= 4096 && h <= 4096 && w*h <= 65536 && w*h <= most, api.ErrLimit)
		hole := p.extras()
		return p.picture(w, h, palette, hole)
	})
}

// text answers so many bytes.
func (p *plain) text(n int) string {
	probe.Must(p.at+n <= len(p.b), api.ErrMalformed)
	p.at += n
	return string(p.b[p.at-n : p.at])
}

func (p *plain) byte() int { return int(p.text(1)[0]) }

func (p *plain) pair() int { return p.byte() + 256*p.byte() }

func (p *plain) palette(flags int) []api.Color {
	var list []api.Color
	if flags>>7 == 1 {
		for range 1 << (1 + flags%8) {
			list = append(list, probe.Eight(p.byte(), p.byte(), p.byte()))
		}
	}
	return list
}

// parts answers sub-blocks, the last one without bytes among them.
func (p *plain) parts() []string {
	var list []string
	for len(list) == 0 || list[len(list)-1] != "" {
		list = append(list, p.text(p.byte()))
	}
	return list
}

// extras reads blocks up to the picture, and answers its clear index.
func (p *plain) extras() int {
	hole := noHole
	for {
		x := p.byte()
		if x == 44 {
			return hole
		}
		probe.Must(x == 33, api.ErrMalformed)
		kind, parts := p.byte(), p.parts()
		if kind == 249 {
			probe.Must(len(parts[0]) == 4, api.ErrMalformed)
			hole = noHole
			if parts[0][0]%2 == 1 {
				hole = int(parts[0][3])
			}
		}
	}
}

// order answers the rows as a file tells them in runs.
func order(h int) []int {
	var list []int
	for _, run := range [][2]int{{0, 8}, {4, 8}, {2, 4}, {1, 2}} {
		for y := run[0]; y < h; y += run[1] {
			list = append(list, y)
		}
	}
	return list
}

func (p *plain) picture(width, height int, palette []api.Color, hole int) api.Image {
	left, top, w, h := p.pair(), p.pair(), p.pair(), p.pair()
	probe.Must(w >= 1 && h >= 1 && left+w <= width && top+h <= height, api.ErrMalformed)
	flags := p.byte()
	if own := p.palette(flags); own != nil {
		palette = own
	}
	probe.Must(palette != nil && hole < len(palette), api.ErrMalformed)
	size := p.byte()
	var codes []byte
	for _, part := range p.parts() {
		codes = append(codes, part...)
	}
	index, e := lzw.GifUnpack(codes, size, 1<<30)
	probe.Must(e == api.OK && len(index) == w*h, api.ErrMalformed)
	list := make([]api.Color, width*height)
	for i, x := range index {
		y := i / w
		if flags>>6%2 == 1 {
			y = order(h)[y]
		}
		probe.Must(int(x) < len(palette), api.ErrMalformed)
		if int(x) != hole {
			list[(top+y)*width+left+i%w] = palette[x]
		}
	}
	return probe.ImageOf(width, height, list)
}

// wantAsTold wants of a file what the plain reader makes of it.
func wantAsTold(t *testing.T, b []byte, most int) api.Errno {
	want, wantE := plainDecode(b, most)
	m, e := gif.Decode(b, most)
	if s := probe.Other(m, e, want, wantE); s != "" {
		t.Helper()
		t.Fatalf("Decode(%s, %d) = %s", told(b), most, s)
	}
	return e
}

// smallFiles are good ones of all kinds, with few pixels; the clear index of each is
// the other answer's.
func smallFiles() ([]file, []int) {
	var files []file
	var holes []int
	add := func(f file, hole int) {
		files = append(files, f)
		holes = append(holes, hole)
	}
	for i, s := range []probe.Size{{1, 1}, {3, 2}, {2, 3}, {9, 1}, {1, 9}, {5, 6}} {
		for told := range 8 {
			n := 2 << told
			f := noisy(uint32(10*i+told), s.W, s.H, n)
			f.runs, f.size, f.cut, f.fill = (i+told)%2 == 0, max(2, told+1), 1+i*told, byte(90*i+told)
			add(f, noHole)
			f.extras = [][]byte{extra(254, "a", "text"), control(n / 2)}
			add(f, n/2)
			f.palette, f.own = probe.Noise(7, 3*2<<(i%3)), f.palette
			f.width, f.height, f.place = s.W+1, s.H+2, api.Rect{X: i % 2, Y: told % 3, W: s.W, H: s.H}
			add(f, n/2)
			f.extras = [][]byte{control(1), extra(1, "twelve bytes"), control(noHole), extra(255, "NETSCAPE2.0", "\x01\x02\x03")}
			f.palette = nil
			add(f, noHole)
		}
	}
	return files, holes
}

// P15.1, P3: good files are read as what they are, by the plain reader too.
func TestDecodeSmallFiles(t *testing.T) {
	files, holes := smallFiles()
	for i, f := range files {
		if e := wantAsTold(t, f.bytes(), plenty); e != api.OK {
			t.Fatal("no good file:", told(f.bytes()), e)
		}
		wantImage(t, f.bytes(), plenty, f.image(holes[i]))
	}
}

// P15.1: files, and such with a few bytes changed, against the plain reader.
func TestDecodeChanged(t *testing.T) {
	t.Parallel()
	letters := []byte{0, 1, 2, 3, 4, 5, 6, 7, 8, 9, 16, 17, 33, 44, 59, 64, 128, 129, 192, 249, 254, 255}
	met := map[api.Errno]int{}
	files, _ := smallFiles()
	for i, f := range files {
		b := f.bytes()
		for k := range uint32(500) {
			met[wantAsTold(t, probe.Changed(b, letters, 1000*uint32(i)+k), []int{plenty, 6, 20, 2}[k%4])]++
		}
	}
	if len(met) != 3 || met[api.OK] < 5000 || met[api.ErrMalformed] < 5000 || met[api.ErrLimit] < 5000 {
		t.Error("of some answers there are but few:", fmt.Sprint(met))
	}
}

// P15.1: each byte of a few files changed to each other one, against the plain reader.
func TestDecodeOfOneByte(t *testing.T) {
	t.Parallel()
	met := map[api.Errno]int{}
	files, _ := smallFiles()
	for _, i := range []int{0, 5, 33, 34, 35, 66, 100, 131} {
		b := files[i].bytes()
		for at := range min(len(b), 130) {
			for x := range 256 {
				met[wantAsTold(t, changed(b, at, byte(x)), plenty)]++
			}
		}
	}
	if len(met) != 3 || met[api.OK] < 5000 || met[api.ErrMalformed] < 5000 || met[api.ErrLimit] < 500 {
		t.Error("of some answers there are but few:", fmt.Sprint(met))
	}
}

// pieces are such as a file may be put together of behind its head, or may not.
func pieces() [][]byte {
	two := file{width: 2, height: 1, palette: ramp(4), index: []byte{3, 0}, size: 2}
	own := two
	own.own = ramp(2)
	own.index = []byte{1, 0}
	late := own
	late.place = api.Rect{X: 1, W: 1, H: 1}
	late.index = late.index[:1]
	wide := two
	wide.place = api.Rect{X: 1, W: 2, H: 1}
	codes := func(f file) []byte { c := f.codes(); return f.picture(c[0], c[1:]) }
	return [][]byte{
		control(0), control(1), control(2), control(3), control(4), control(noHole), control(noHole), control(255),
		extra(254, "text"), extra(1, "a", "b"), extra(249), extra(249, "abc"), extra(0), extra(249, "\x01\x00\x00\x00", "more"),
		codes(two), codes(own), codes(late), codes(wide), two.picture(2, nil), two.picture(2, lzwOf([]byte{1}, 2)), own.picture(2, lzwOf([]byte{1, 2}, 2)),
		{59}, {0}, {33}, {44},
	}
}

// P15.1: blocks of a few kinds in any order, ahead of a picture and behind it, against
// the plain reader.
func TestDecodeOfAnyOrder(t *testing.T) {
	t.Parallel()
	met := map[api.Errno]int{}
	all := pieces()
	for seed := range uint32(30000) {
		dice := probe.Noise(seed, 8)
		f := file{width: 2, height: 1}
		if dice[0]%3 > 0 {
			f.palette = ramp(2 << (dice[0] % 3))
		}
		b := f.head()
		for _, x := range dice[1 : 2+dice[7]%6] {
			b = append(b, all[int(x)%len(all)]...)
		}
		met[wantAsTold(t, b, 1+int(seed%7))]++
	}
	if len(met) != 3 || met[api.OK] < 2000 || met[api.ErrMalformed] < 2000 || met[api.ErrLimit] < 2000 {
		t.Error("of some answers there are but few:", fmt.Sprint(met))
	}
}

// P15.1: noise in the place of codes, against the plain reader.
func TestDecodeOfAnyCodes(t *testing.T) {
	t.Parallel()
	met := map[api.Errno]int{}
	for seed := range uint32(60000) {
		dice := probe.Noise(seed, 12)
		f := file{width: 1 + int(dice[0])%2, height: 1 + int(dice[1])%3, palette: ramp(4), runs: seed%2 == 0, cut: 1 + int(dice[2])%4}
		// Codes of three bits: clear and end ones are often met.
		met[wantAsTold(t, f.with(2, append([]byte{dice[3]&0xF8 | 4}, dice[4:4+dice[2]%5]...)), plenty)]++
	}
	if len(met) != 2 || met[api.OK] < 500 || met[api.ErrMalformed] < 5000 {
		t.Error("of some answers there are but few:", fmt.Sprint(met))
	}
}

// order is held against the turns of rows that files are put together by.
func TestOrder(t *testing.T) {
	for h := 1; h < 50; h++ {
		f := file{width: 1, height: h, runs: true, index: probe.Each()[:h]}
		var want []byte
		for _, y := range order(h) {
			want = append(want, byte(y))
		}
		if !slices.Equal(f.rows(), want) {
			t.Error(h, f.rows(), want)
		}
	}
}
