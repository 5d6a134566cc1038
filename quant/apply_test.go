package quant_test

import (
	"slices"
	"testing"

	"darkroom/api"
	"darkroom/probe"
	"darkroom/quant"
)

// P14.2: what is near to the eight-bit colour of a pixel, and what stands for
// clear ones.
func TestApplyKnown(t *testing.T) {
	light := api.Color{R: 60000, G: 60000, B: 60000, A: 32767}
	for name, x := range map[string]struct {
		palette, pixels []api.Color
		want            []byte
	}{
		"just these":                    {[]api.Color{black, white}, []api.Color{white, black, black}, []byte{1, 0, 0}},
		"one for all":                   {[]api.Color{blue}, []api.Color{white, red, hole}, []byte{0, 0, 0}},
		"the nearest":                   {[]api.Color{black, grey(100), white}, []api.Color{grey(49), grey(51), grey(177), grey(178)}, []byte{0, 1, 1, 2}},
		"as near, the first":            {[]api.Color{grey(20), grey(10)}, []api.Color{grey(15)}, []byte{0}},
		"as near, the first again":      {[]api.Color{grey(10), grey(20)}, []api.Color{grey(15)}, []byte{0}},
		"the same twice":                {[]api.Color{black, red, red}, []api.Color{red}, []byte{1}},
		"rounded down":                  {[]api.Color{{R: 128}, {R: 1}}, []api.Color{{R: 128, A: greatest}}, []byte{1}},
		"rounded up":                    {[]api.Color{{R: 129}, {R: 300}}, []api.Color{{R: 129, A: greatest}}, []byte{1}},
		"the palette isn't rounded":     {[]api.Color{{R: 128}, {R: 120}}, []api.Color{black}, []byte{1}},
		"nor up":                        {[]api.Color{{R: 200}, {R: 210}}, []api.Color{{R: 257, A: greatest}}, []byte{1}},
		"rounded green":                 {[]api.Color{{G: 128}, {G: 1}}, []api.Color{{G: 128, A: greatest}}, []byte{1}},
		"rounded blue":                  {[]api.Color{{B: 128}, {B: 1}}, []api.Color{{B: 128, A: greatest}}, []byte{1}},
		"clear":                         {[]api.Color{black, hole, white}, []api.Color{hole, light, white}, []byte{1, 1, 2}},
		"clear, the first":              {[]api.Color{white, {R: 5}, hole}, []api.Color{hole}, []byte{1}},
		"clear, the first of all":       {[]api.Color{{R: 9}, hole, black}, []api.Color{hole}, []byte{0}},
		"clear, the last":               {[]api.Color{black, white, hole}, []api.Color{{R: 1, A: 9}}, []byte{2}},
		"just clear":                    {[]api.Color{white, hole}, []api.Color{light, {R: 60000, G: 60000, B: 60000, A: 32768}}, []byte{1, 0}},
		"clear, of none that is":        {[]api.Color{black, white}, []api.Color{light, hole}, []byte{1, 0}},
		"clear, of one nearly clear":    {[]api.Color{{A: 1}, white}, []api.Color{light}, []byte{1}},
		"clear is rounded too":          {[]api.Color{{R: 128, A: 7}, {R: 1, A: 7}}, []api.Color{{R: 128}}, []byte{1}},
		"not clear, and nearest is":     {[]api.Color{white, hole}, []api.Color{black}, []byte{1}},
		"not clear, as near as another": {[]api.Color{hole, black}, []api.Color{black, {A: 32768}}, []byte{0, 0}},
		"alpha isn't looked at":         {[]api.Color{{R: 514, A: 40000}, {R: 257}}, []api.Color{{R: 257, A: 40000}}, []byte{1}},
		"clear ahead of solid":          {[]api.Color{red, hole}, []api.Color{{R: greatest}, red}, []byte{1, 0}},
		"solid ahead of clear":          {[]api.Color{red, hole}, []api.Color{red, {R: greatest}}, []byte{0, 1}},
		"one color in two samples":      {[]api.Color{{R: 9}, {R: 250}}, []api.Color{{R: 128, A: greatest}, {R: 129, A: greatest}, black}, []byte{0, 1, 0}},
	} {
		t.Log(name)
		wantIndex(t, probe.Row(x.pixels...), x.palette, x.want)
	}
}

// P14.2: palettes of many lengths, clear colours among them, for images of many
// sizes.
func TestApply(t *testing.T) {
	t.Parallel()
	holes, none, clear := 0, 0, 0
	for seed := range uint32(400) {
		s := probe.Noise(seed, 6)
		m := probe.Image(seed, 1+int(s[0])%20, 1+int(s[1])%20)
		probe.Coarsen(m, seed)
		palette := probe.Colors(seed+1000, 1+int(s[2])*int(s[3])/255)
		for i := range palette {
			if s[4]%3 == 0 && i%5 == int(s[5])%5 {
				palette[i].A = 0
			}
		}
		want := plainIndex(m, palette)
		wantIndex(t, m, palette, want)
		for i, place := range want {
			isHole := palette[place].A == 0
			isClear := m.Pix[4*i+3] < 32768
			switch {
			case isHole && isClear:
				clear++
			case isHole:
				holes++
			default:
				none++
			}
		}
	}
	if holes < 500 || clear < 500 || none < 500 {
		t.Error("too seldom:", holes, clear, none)
	}
}

// P14.2: sizes of all kinds, and palettes of 1, 255 and 256 colours.
func TestApplySizes(t *testing.T) {
	for i, s := range probe.Sizes() {
		m := probe.Image(uint32(i), s.W, s.H)
		probe.Coarsen(m, 4)
		for _, n := range []int{1, 2, 255, 256} {
			palette := probe.Colors(uint32(i), n)
			wantIndex(t, m, palette, plainIndex(m, palette))
		}
	}
}

// P14.2: each place of the greatest palette, and each sample of each plane.
func TestApplyEach(t *testing.T) {
	all := probe.Eights(plenty)
	var want []byte
	for i := range plenty {
		want = append(want, byte(i))
	}
	wantIndex(t, probe.Row(all...), all, want)
	for place := range all {
		palette := slices.Clone(all)
		palette[place].A = 0
		wantIndex(t, probe.Row(hole, all[place]), palette, []byte{byte(place), byte(place)})
	}
	for plane := range 4 {
		m := probe.EachSample(plane)
		for i := range m.Pix {
			if i%4 != plane {
				m.Pix[i] = greatest
			}
		}
		palette := []api.Color{white, {G: greatest, B: greatest}, {R: greatest, B: greatest}, {R: greatest, G: greatest, A: 3}, {R: 32000, G: 32000, B: 32000, A: 0}}
		wantIndex(t, m, palette, plainIndex(m, palette))
	}
}

// P14.2: palettes that are empty or too long; an image that isn't good goes first.
func TestNoIndex(t *testing.T) {
	wrong := [][]api.Color{nil, {}, probe.Eights(plenty)[:0], probe.Eights(257), probe.Eights(258), probe.Eights(512), probe.Eights(70000), make([]api.Color, 257)}
	for _, palette := range wrong {
		for _, m := range []api.Image{probe.Row(black), probe.Row(hole), probe.Image(1, 7, 7)} {
			wantNoIndex(t, m, palette, api.ErrRange)
		}
		wantNoIndex(t, api.Image{}, palette, api.ErrImage)
	}
	for _, m := range probe.BadImages() {
		wantNoIndex(t, m, []api.Color{black}, api.ErrImage)
		wantNoIndex(t, m, nil, api.ErrImage)
	}
}

// P14.4: images of few eight-bit colours come back just as they were.
func TestThereAndBack(t *testing.T) {
	images := []api.Image{probe.Row(black, white), probe.Row(red), probe.Row(probe.Eights(256)...), probe.ImageOf(16, 16, probe.Eights(256))}
	for seed := range uint32(60) {
		s := probe.Noise(seed, 2000)
		w, h := 1+int(s[0])%40, 1+int(s[1])%40
		all := probe.Eights(1 + int(s[2]))
		m := api.Image{W: w, H: h}
		for i := range w * h {
			c := all[int(s[3+i])%len(all)]
			m.Pix = append(m.Pix, c.R, c.G, c.B, c.A)
		}
		images = append(images, m)
	}
	for _, m := range images {
		palette, e := quant.Palette(m, plenty)
		p, e2 := quant.Apply(m, palette)
		if e != api.OK || e2 != api.OK {
			t.Fatal(probe.Told(m), e, e2)
		}
		wantBack(t, p, m)
	}
}

// P14.4: with other alphas, or samples of more bits, an image comes back rounded;
// clear pixels come back clear, if the palette has a colour for them.
func TestThereAndBackRounded(t *testing.T) {
	m := probe.Row(api.Color{R: 128, G: 129, B: 65406, A: 40000}, api.Color{R: 9, G: 500, B: 3, A: 32767}, black)
	palette, e := quant.Palette(m, 2)
	p, e2 := quant.Apply(m, append(palette, api.Color{R: 7}))
	if e != api.OK || e2 != api.OK {
		t.Fatal(e, e2)
	}
	wantBack(t, p, probe.Row(probe.Eight(0, 1, 254), api.Color{R: 7}, black))
}
