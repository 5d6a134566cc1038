package raster_test

import (
	"slices"
	"testing"

	"darkroom/api"
	"darkroom/probe"
	"darkroom/raster"
)

// A call answers samples out of an image.
type call struct {
	name string
	do   func(m api.Image) ([]uint16, api.Errno)
}

// calls are of each kind, with what else they are given within an image of 3 by 2,
// and not within a smaller one.
func calls() []call {
	other := probe.Image(1, 2, 2)
	return []call{
		{"Good", func(m api.Image) ([]uint16, api.Errno) { return flags(raster.Good(m)), api.OK }},
		{"Same", func(m api.Image) ([]uint16, api.Errno) {
			return flags(raster.Same(m, other), raster.Same(m, m), raster.Same(other, m)), api.OK
		}},
		{"Fill", func(m api.Image) ([]uint16, api.Errno) {
			c, _ := raster.At(m, 0, 0)
			n, e := raster.Fill(m.W, m.H, c)
			return n.Pix, e
		}},
		{"At", func(m api.Image) ([]uint16, api.Errno) {
			c, ok := raster.At(m, 2, 1)
			return slices.Concat(flags(ok), []uint16{c.R, c.G, c.B, c.A}), api.OK
		}},
		{"Grid and Of", func(m api.Image) ([]uint16, api.Errno) {
			g, e := raster.Grid(m)
			if e != api.OK {
				return flags(g == nil), e
			}
			n, e := raster.Of(g)
			return n.Pix, e
		}},
		{"Crop", func(m api.Image) ([]uint16, api.Errno) {
			n, e := raster.Crop(m, api.Rect{X: 1, Y: 0, W: 2, H: 2})
			return n.Pix, e
		}},
		{"Crop of the whole", func(m api.Image) ([]uint16, api.Errno) {
			n, e := raster.Crop(m, api.Rect{W: m.W, H: m.H})
			return n.Pix, e
		}},
		{"Crop of a row", func(m api.Image) ([]uint16, api.Errno) {
			n, e := raster.Crop(m, api.Rect{Y: 1, W: m.W, H: 1})
			return n.Pix, e
		}},
		{"Paste into", func(m api.Image) ([]uint16, api.Errno) {
			n, e := raster.Paste(m, other, 2, -1)
			return n.Pix, e
		}},
		{"Paste into, far off", func(m api.Image) ([]uint16, api.Errno) {
			n, e := raster.Paste(m, other, 1<<62, 0)
			return n.Pix, e
		}},
		{"Paste of", func(m api.Image) ([]uint16, api.Errno) {
			n, e := raster.Paste(other, m, -1, 1)
			return n.Pix, e
		}},
		{"Paste of, just over", func(m api.Image) ([]uint16, api.Errno) {
			n, e := raster.Paste(m, m, 0, 0)
			return n.Pix, e
		}},
		{"Paste into itself", func(m api.Image) ([]uint16, api.Errno) {
			n, e := raster.Paste(m, m, 1, 1)
			return n.Pix, e
		}},
		{"Distinct", func(m api.Image) ([]uint16, api.Errno) {
			list := raster.Distinct(m)
			return probe.ImageOf(len(list), 1, list).Pix, api.OK
		}},
	}
}

func flags(list ...bool) []uint16 {
	var all []uint16
	for _, x := range list {
		if x {
			all = append(all, 1)
		} else {
			all = append(all, 0)
		}
	}
	return all
}

// R2, R4: what is handed in stays, spare room included, and isn't kept; what is
// answered is new memory, spare room included.
func TestKeepsAndSharesNothing(t *testing.T) {
	for _, c := range calls() {
		for _, s := range []probe.Size{{1, 1}, {2, 2}, {3, 2}, {6, 1}, {1, 6}, {0, 0}, {7, 7}} {
			for _, n := range []int{0, 4, 16, 23, 24, 25} {
				if f := probe.Kept(probe.Image(2, 7, 1).Pix[:n], func(pix []uint16) ([]uint16, api.Errno) {
					return c.do(api.Image{W: s.W, H: s.H, Pix: pix})
				}); f != "" {
					t.Errorf("%s of %v, %d samples: %s", c.name, s, n, f)
				}
			}
		}
	}
}

// R4: an answer that is handed in stays too, and shares nothing with what is made
// of it.
func TestAnswersOfAnswers(t *testing.T) {
	for _, c := range calls() {
		m := mustFill(t, 3, 2, api.Color{R: 3, G: 4, B: 5, A: 6})
		want := cloned(m)
		answer, _ := c.do(m)
		before := slices.Clone(answer)
		again, _ := c.do(m)
		probe.Spoil(answer)
		if !raster.Same(m, want) || !slices.Equal(again, before) {
			t.Errorf("%s shares memory", c.name)
		}
		probe.Spoil(m.Pix)
		if !slices.Equal(again, before) {
			t.Errorf("%s shares memory with what was handed in", c.name)
		}
	}
}

// R5, R6: the same call answers the same, whatever was asked ahead of it and is
// asked beside it.
func TestSameAnswers(t *testing.T) {
	t.Parallel()
	all := calls()
	images := []api.Image{
		probe.Image(3, 3, 2), probe.Image(4, 3, 2), probe.Image(5, 3, 3), mustFill(t, 4, 2, api.Color{R: 9}),
		{}, probe.Sampled(3, 2, 23), probe.Sampled(3, 2, 24), probe.Sampled(0, 2, 24), probe.Sampled(1, 1, 4),
	}
	if s := probe.Steady(len(all)*len(images), func(i int) ([]byte, api.Errno) {
		list, e := all[i%len(all)].do(images[i/len(all)])
		var b []byte
		for _, n := range list {
			b = append(b, byte(n>>8), byte(n))
		}
		return b, e
	}); s != "" {
		t.Error(s)
	}
}

// R1: no call panics, whatever image, places and sizes it is given.
func TestNoPanic(t *testing.T) {
	numbers := append(probe.Far(), -api.MaxSide, -1, 0, 1, 2, api.MaxSide)
	images := []api.Image{{}, probe.Image(1, 1, 1), probe.Image(1, 3, 2), probe.Sampled(1, 1, 3), probe.Sampled(1<<62, 1, 0), probe.Sampled(1<<32, 1<<32, 4), probe.Sampled(-1, -1, 4)}
	for _, m := range images {
		for _, c := range calls() {
			_, _ = c.do(m)
		}
		for _, a := range numbers {
			for _, b := range numbers {
				raster.At(m, a, b)
				for _, p := range images {
					_, _ = raster.Paste(m, p, a, b)
				}
				for _, c := range numbers {
					_, _ = raster.Crop(m, api.Rect{X: a, Y: b, W: c, H: b})
					_, _ = raster.Crop(m, api.Rect{X: c, Y: a, W: a, H: b})
				}
			}
		}
	}
}
