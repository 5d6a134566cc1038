package quant_test

import (
	"math"
	"slices"
	"testing"

	"darkroom/api"
	"darkroom/probe"
	"darkroom/quant"
)

// R3: nil and an empty list are one.
func TestNilIsEmpty(t *testing.T) {
	for _, pix := range [][]uint16{nil, {}, make([]uint16, 0, 50)} {
		wantNoPalette(t, api.Image{Pix: pix}, 1, api.ErrImage)
		wantNoPalette(t, api.Image{W: 1, H: 1, Pix: pix}, 1, api.ErrImage)
		wantNoIndex(t, api.Image{W: 1, H: 1, Pix: pix}, []api.Color{red}, api.ErrImage)
	}
	for _, palette := range [][]api.Color{nil, {}, make([]api.Color, 0, 50)} {
		wantNoIndex(t, probe.Row(red), palette, api.ErrRange)
		wantNotBack(t, api.Paletted{W: 1, H: 1, Palette: palette, Index: []byte{0}}, api.ErrRange)
		for _, index := range [][]byte{nil, {}, make([]byte, 0, 50)} {
			wantNotBack(t, api.Paletted{W: 1, H: 1, Palette: palette, Index: index}, api.ErrLong)
			wantNotBack(t, api.Paletted{Palette: palette, Index: index}, api.ErrSize)
		}
	}
}

// small are images that palettes of few colours and of many are made of.
func small() []api.Image {
	return []api.Image{
		probe.Row(black, white, black), probe.Row(probe.Eights(20)...), probe.Image(1, 5, 4), probe.ImageOf(4, 4, append(probe.Eights(14), hole, red)),
		probe.Row(hole), {}, probe.Sampled(2, 2, 15),
	}
}

// R2, R4: what is handed in stays, spare room included, and isn't read there nor
// kept; what is answered is new memory, spare room included.
func TestKeepsAndSharesNothing(t *testing.T) {
	palette := append(probe.Eights(9), hole)
	for _, m := range small() {
		for _, n := range []int{len(m.Pix), max(len(m.Pix)-1, 0), 0} {
			of := func(pix []uint16) api.Image { return api.Image{W: m.W, H: m.H, Pix: pix} }
			for _, most := range []int{0, 1, 2, 7, 256} {
				if s := probe.Kept(m.Pix[:n], func(pix []uint16) ([]uint16, api.Errno) {
					p, e := quant.Palette(of(pix), most)
					return samples(p), e
				}); s != "" {
					t.Errorf("Palette(%s, %d): %s", probe.Told(m), most, s)
				}
			}
			if s := probe.Kept(m.Pix[:n], func(pix []uint16) ([]uint16, api.Errno) {
				p, e := quant.Apply(of(pix), palette)
				return probe.Wide(p.Index), e
			}); s != "" {
				t.Errorf("Apply(%s): %s", probe.Told(m), s)
			}
		}
	}
	for _, index := range [][]byte{{0, 3, 9}, {0, 3}, {0, 3, 10}, nil} {
		if s := probe.Kept(index, func(b []byte) ([]byte, api.Errno) {
			m, e := quant.Back(api.Paletted{W: 3, H: 1, Palette: palette, Index: b})
			return probe.Narrow(m.Pix), e
		}); s != "" {
			t.Errorf("Back(%v): %s", index, s)
		}
	}
}

// spoil changes colours and what stands in their spare room.
func spoil(list []api.Color) {
	list = list[:cap(list)]
	for i := range list {
		list[i].R += 1000
		list[i].A ^= greatest
	}
}

// R4: palettes stay, spare room included, and aren't kept nor answered; answered
// ones are one's own.
func TestPalettesAreApart(t *testing.T) {
	all := append(probe.Eights(12), hole, red, hole)
	before := slices.Clone(all)
	palette := all[2:9]
	m := probe.Image(1, 5, 4)
	want := plainIndex(m, palette)
	first, _ := quant.Apply(m, palette)
	second, _ := quant.Apply(m, palette)
	probe.Spoil(first.Index)
	spoil(first.Palette)
	if !slices.Equal(all, before) || !slices.Equal(second.Palette, palette) || !slices.Equal(second.Index, want) {
		t.Error("Apply's answers share memory, or what was handed in is answered")
	}
	spoil(all)
	if !slices.Equal(second.Palette, before[2:9]) {
		t.Error("what was handed in to Apply is answered")
	}
	wantIndex(t, m, before[2:9], want)
	for _, most := range []int{1, 5, 256} {
		m := probe.Row(probe.Eights(20)...)
		one, _ := quant.Palette(m, most)
		two, _ := quant.Palette(m, most)
		kept := slices.Clone(two)
		spoil(one)
		if !slices.Equal(two, kept) {
			t.Error("Palette's answers share memory")
		}
		wantPalette(t, m, most, kept)
	}
	given := api.Paletted{W: 2, H: 1, Palette: slices.Clone(before)[:3], Index: []byte{1, 2}}
	back, e := quant.Back(given)
	spoil(given.Palette)
	if s := probe.Other(back, e, probe.Row(before[1], before[2]), api.OK); s != "" {
		t.Error("Back keeps or changes a palette:", s)
	}
}

// R5, R6: the same call answers the same, whatever was asked ahead of it and is
// asked beside it.
func TestSameAnswers(t *testing.T) {
	t.Parallel()
	images := append(small(), probe.Row(probe.Eights(4096)...), probe.Image(9, 30, 30))
	if s := probe.Steady(12*len(images), func(i int) ([]byte, api.Errno) {
		m := images[i%len(images)]
		most := []int{1, 2, 3, 16, 100, 256}[i/len(images)%6]
		palette, e := quant.Palette(m, most)
		if i < 6*len(images) || e != api.OK {
			return probe.Narrow(samples(palette)), e
		}
		p, e := quant.Apply(m, append(palette[:len(palette)/2], hole))
		return append(probe.Narrow(samples(p.Palette)), p.Index...), e
	}); s != "" {
		t.Error(s)
	}
}

// R1: no call panics or goes on for ever, whatever it is given.
func TestNoPanic(t *testing.T) {
	numbers := append(probe.Far(), -1, 0, 1, 2, 256, 257)
	lists := [][]api.Color{nil, {}, {hole}, probe.Eights(256), probe.Eights(257)}
	for _, m := range append(small(), probe.Sampled(1<<62, 4, 0), probe.Sampled(-1, -1, 4), probe.Sampled(math.MinInt, 1, 4)) {
		for _, n := range numbers {
			_, _ = quant.Palette(m, n)
		}
		for _, list := range lists {
			_, _ = quant.Apply(m, list)
		}
	}
	for _, w := range numbers {
		for _, h := range numbers {
			for _, list := range lists {
				for _, index := range [][]byte{nil, {0}, {255, 255}} {
					_, _ = quant.Back(api.Paletted{W: w, H: h, Palette: list, Index: index})
				}
			}
		}
	}
}
