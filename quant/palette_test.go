package quant_test

import (
	"slices"
	"testing"

	"darkroom/api"
	"darkroom/probe"
	"darkroom/quant"
)

// P14.1: colours each once, in the order in which they are met; samples that one
// number of eight bits stands for are one; clear pixels have none.
func TestPaletteKnown(t *testing.T) {
	for name, x := range map[string]struct{ pixels, want []api.Color }{
		"black and white":          {[]api.Color{black, white, white, black}, []api.Color{black, white}},
		"white first":              {[]api.Color{white, black, white}, []api.Color{white, black}},
		"one":                      {[]api.Color{red}, []api.Color{red}},
		"the same again":           {[]api.Color{blue, red, blue, black, red}, []api.Color{blue, red, black}},
		"neither rising nor not":   {[]api.Color{grey(9), grey(200), grey(3)}, []api.Color{grey(9), grey(200), grey(3)}},
		"by one sample":            {[]api.Color{probe.Eight(1, 2, 3), probe.Eight(2, 2, 3), probe.Eight(1, 3, 3), probe.Eight(1, 2, 4)}, []api.Color{probe.Eight(1, 2, 3), probe.Eight(2, 2, 3), probe.Eight(1, 3, 3), probe.Eight(1, 2, 4)}},
		"the same elsewhere":       {[]api.Color{probe.Eight(1, 2, 3), probe.Eight(3, 2, 1), probe.Eight(2, 1, 3)}, []api.Color{probe.Eight(1, 2, 3), probe.Eight(3, 2, 1), probe.Eight(2, 1, 3)}},
		"rounded to nought":        {[]api.Color{{R: 128, G: 1, B: 127, A: greatest}, black}, []api.Color{black}},
		"rounded to one":           {[]api.Color{{R: 129, G: 257, B: 385, A: greatest}}, []api.Color{probe.Eight(1, 1, 1)}},
		"rounded to the last one":  {[]api.Color{{R: 65406, G: 65407, B: 65534, A: greatest}}, []api.Color{probe.Eight(254, 255, 255)}},
		"near alphas are one":      {[]api.Color{{R: 514, A: 32768}, {R: 514, A: 65534}, {R: 514, A: greatest}}, []api.Color{probe.Eight(2, 0, 0)}},
		"just not clear":           {[]api.Color{{R: 514, A: 32768}}, []api.Color{probe.Eight(2, 0, 0)}},
		"just clear":               {[]api.Color{{R: 514, A: 32767}, black}, []api.Color{black}},
		"clear between":            {[]api.Color{white, hole, {R: 9, G: 8, B: 7, A: 1}, red}, []api.Color{white, red}},
		"clear, and solid behind":  {[]api.Color{{R: greatest, A: 5}, black, red}, []api.Color{black, red}},
		"all clear":                {[]api.Color{hole, {R: greatest, A: 32767}, {G: 5, A: 3}}, nil},
		"clear in the greatest":    {[]api.Color{{R: greatest, G: greatest, B: greatest}}, nil},
		"what is rounded is solid": {[]api.Color{{R: 130, A: 40000}, {R: 140, A: 50000}}, []api.Color{probe.Eight(1, 0, 0)}},
	} {
		for _, most := range []int{max(len(x.want), 1), len(x.want) + 1, 17, plenty} {
			t.Log(name)
			wantPalette(t, probe.Row(x.pixels...), most, x.want)
		}
	}
}

// P14.1: each sample there is, in each of three planes, and each alpha.
func TestPaletteOfEachSample(t *testing.T) {
	for plane := range 3 {
		var want []api.Color
		for v := range plenty {
			c := [3]int{}
			c[plane] = v
			want = append(want, probe.Eight(c[0], c[1], c[2]))
		}
		m := probe.EachSample(plane)
		for i := range m.Pix {
			if i%4 != plane {
				m.Pix[i] = 0
			}
			if i%4 == 3 {
				m.Pix[i] = greatest
			}
		}
		wantPalette(t, m, plenty, want)
	}
	m := probe.Solid(256, 256, make([]uint16, 3*256*256)...)
	for a := range greatest + 1 {
		m.Pix[4*a], m.Pix[4*a+3] = greatest, uint16(a)
	}
	wantPalette(t, m, plenty, []api.Color{red})
	for i := range greatest + 1 {
		m.Pix[4*i] = 0
		if i >= 32768 {
			m.Pix[4*i+3] = 32767
		}
	}
	wantPalette(t, m, plenty, nil)
	m.Pix[4*40000+3] = 32768
	wantPalette(t, m, plenty, []api.Color{black})
}

// wantGoodPalette wants, sentence by sentence, what a palette is, and answers
// whether there are fewer colours than the image has.
func wantGoodPalette(t *testing.T, m api.Image, most int) bool {
	t.Helper()
	met := probe.Met(m)
	if len(met) <= most {
		wantPalette(t, m, most, met)
		return false
	}
	p, e := quant.Palette(m, most)
	if e != api.OK || len(p) != most {
		t.Fatalf("Palette(%s, %d) has %d, %d", probe.Told(m), most, len(p), e)
	}
	seen := map[api.Color]bool{}
	for _, c := range p {
		if c != probe.EightBit(c) || seen[c] {
			t.Fatalf("Palette(%s, %d) has %v, which is there or isn't of depth 8", probe.Told(m), most, c)
		}
		seen[c] = true
		// That it's just one of them is more than to be within their range.
		if !slices.Contains(met, c) {
			t.Fatalf("Palette(%s, %d) has %v, which the image hasn't", probe.Told(m), most, c)
		}
	}
	return true
}

// P14.1: images of as many colours as there may be, of fewer, and of more.
func TestPaletteOfMany(t *testing.T) {
	fewer := 0
	for _, n := range []int{1, 2, 3, 4, 5, 7, 8, 9, 16, 33, 100, 255, 256, 257, 258, 300, 1000, 4000} {
		for _, most := range []int{1, 2, 3, 4, 7, 8, 15, 16, 17, 64, 128, 255, 256, n - 1, n, n + 1} {
			if most < 1 || most > plenty {
				continue
			}
			all := probe.Eights(n)
			if len(probe.Met(probe.Row(all...))) != n {
				t.Fatal("not so many colours:", n)
			}
			for _, m := range []api.Image{probe.Row(all...), probe.Row(slices.Concat(all, all)...), probe.Row(slices.Repeat(all[:1], n)...)} {
				if wantGoodPalette(t, m, most) {
					fewer++
				}
			}
		}
	}
	if fewer < 150 {
		t.Error("fewer colours were asked for only", fewer, "times")
	}
}

// P14.1: images that look like nothing in particular, with clear pixels among the
// others, of all sizes and of few colours and many.
func TestPaletteOfNoise(t *testing.T) {
	t.Parallel()
	fewer, clear := 0, 0
	for seed := range uint32(600) {
		s := probe.Noise(seed, 6)
		w, h := 1+int(s[0])%24, 1+int(s[1])%24
		m := probe.Image(seed, w, h)
		probe.Coarsen(m, seed)
		most := 1 + int(s[2])%(2+int(s[3])*int(s[4])/256)
		if wantGoodPalette(t, m, most) {
			fewer++
		}
		if len(probe.Met(m)) == 0 {
			clear++
		}
	}
	if fewer < 200 || fewer > 500 || clear < 5 {
		t.Error("fewer colours:", fewer, "none:", clear)
	}
}

// P14.1: the greatest images, with as many colours as pixels, or with few of them.
func TestPaletteOfGreatImages(t *testing.T) {
	for _, m := range []api.Image{
		probe.Row(probe.Eights(api.MaxPixels)...), probe.Image(1, 256, 256), probe.Image(2, api.MaxSide, 16), probe.EachSample(1),
		probe.Row(slices.Repeat(probe.Eights(300)[:256], 256)...), probe.Row(slices.Concat(probe.Eights(257), slices.Repeat(probe.Eights(1), 4096-257))...),
	} {
		for _, most := range []int{1, 2, 100, 255, 256} {
			wantGoodPalette(t, m, most)
		}
	}
}

// P14.1: along one line of colours each sample that is always the same is so in
// the palette, and what clear pixels have doesn't count.
func TestPaletteWithinRange(t *testing.T) {
	for plane := range 3 {
		var all []api.Color
		for i := range plenty {
			c := [3]int{50, 60, 70}
			c[plane] = (i * 77) % 199
			all = append(all, probe.Eight(c[0], c[1], c[2]), api.Color{R: greatest, A: 32767}, api.Color{B: greatest})
		}
		for most := 1; most <= 198; most++ {
			wantGoodPalette(t, probe.Row(all...), most)
		}
		wantGoodPalette(t, probe.Row(all...), 199)
	}
}

// P14.1: which colours there are is free, but they stand for the image's: each
// heap of near colours has one, and what most pixels are counts.
func TestPaletteOfHeaps(t *testing.T) {
	for n := 1; n <= 27; n++ {
		var all []api.Color
		for i := range 40 * n {
			k := i % n
			at := func(axis int) int { return 10 + 100*(k/[]int{1, 3, 9}[axis]%3) + i*[]int{7, 5, 3}[axis]/n%9 }
			all = append(all, probe.Eight(at(0), at(1), at(2)))
		}
		p, e := quant.Palette(probe.Row(all...), n)
		if e != api.OK || len(p) != n {
			t.Fatal(n, told(p), e)
		}
		for _, c := range all {
			near := p[probe.Nearest(p, c)]
			for _, s := range []int{int(near.R) - int(c.R), int(near.G) - int(c.G), int(near.B) - int(c.B)} {
				if max(s, -s) > 257*9 {
					t.Fatalf("of %d heaps %v is far from %s", n, c, told(p))
				}
			}
		}
	}
	for _, many := range []api.Color{black, red, blue, white} {
		all := slices.Repeat([]api.Color{many}, 200)
		wantPalette(t, probe.Row(append(all, black, red, blue, white, grey(77))...), 1, []api.Color{many})
		wantPalette(t, probe.Row(append([]api.Color{grey(77), white, blue, red, black}, all...)...), 1, []api.Color{many})
	}
}

// P14.1: a single colour is the one nearest to the mean of all pixels that aren't
// clear, each as often as it is there.
func TestPaletteOfOne(t *testing.T) {
	asked := 0
	for seed := range uint32(200) {
		m := probe.Image(seed, 4+int(seed)%5, 3)
		probe.Coarsen(m, seed/3)
		// One colour is there several times.
		for i := range m.Pix[:4*(seed%8)] {
			m.Pix[i] = m.Pix[i%4]
		}
		met := probe.Met(m)
		var sum [3]int
		count := 0
		for _, c := range probe.ColorsOf(m) {
			if c.A >= 32768 {
				c = probe.EightBit(c)
				sum[0], sum[1], sum[2] = sum[0]+int(c.R), sum[1]+int(c.G), sum[2]+int(c.B)
				count++
			}
		}
		if len(met) < 2 {
			continue
		}
		asked++
		mean := api.Color{R: uint16(sum[0] / count), G: uint16(sum[1] / count), B: uint16(sum[2] / count)}
		wantPalette(t, m, 1, met[probe.Nearest(met, mean):][:1])
	}
	if asked < 100 {
		t.Error("asked only", asked, "times")
	}
}

// wrongness is how far an image's pixels are from a palette's colours, squared.
func wrongness(m api.Image, palette []api.Color) int {
	sum := 0
	for _, c := range probe.ColorsOf(m) {
		if c.A >= 32768 {
			c = probe.EightBit(c)
			sum += probe.Distance(c, palette[probe.Nearest(palette, c)])
		}
	}
	return sum
}

// P14.1: which colours there are is free, but they are much nearer to the image's
// than colours taken by their turn.
func TestPaletteIsNear(t *testing.T) {
	t.Parallel()
	for seed := range uint32(12) {
		m := probe.Image(seed, 40, 30)
		// Some parts of the image are of nearer colours than others.
		for i := range m.Pix {
			m.Pix[i] = m.Pix[i] >> (i / 4 % 40 / 8) << (seed % 3)
			if i%4 == 3 {
				m.Pix[i] = greatest
			}
		}
		met := probe.Met(m)
		for _, most := range []int{2, 4, 16, 64, 200} {
			p, e := quant.Palette(m, most)
			if e != api.OK || len(p) != most {
				t.Fatal(len(p), e)
			}
			var turns []api.Color
			for i := range most {
				turns = append(turns, met[i*len(met)/most])
			}
			if is, other := wrongness(m, p), wrongness(m, turns); 4*is > 3*other {
				t.Errorf("seed %d: %d colours leave %d; by their turn %d", seed, most, is, other)
			}
		}
	}
}

// P14.1: numbers of colours that may not be; an image that isn't good goes first.
func TestNoPalette(t *testing.T) {
	wrong := append(probe.Far(), -256, -1, 0, 257, 258, 300, 512)
	for _, most := range wrong {
		for _, m := range []api.Image{probe.Row(black), probe.Row(hole), probe.Row(probe.Eights(300)...), probe.Image(1, 7, 7)} {
			wantNoPalette(t, m, most, api.ErrRange)
		}
		wantNoPalette(t, api.Image{}, most, api.ErrImage)
	}
	for _, m := range probe.BadImages() {
		for _, most := range []int{0, 1, 255, 256, 257} {
			wantNoPalette(t, m, most, api.ErrImage)
		}
	}
}
