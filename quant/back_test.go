package quant_test

import (
	"slices"
	"testing"

	"darkroom/api"
	"darkroom/probe"
)

// P14.3: colours by their places, just as the palette has them.
func TestBackKnown(t *testing.T) {
	odd := api.Color{R: 1, G: 2, B: 3, A: 4}
	for name, x := range map[string]struct {
		palette []api.Color
		index   []byte
		want    []api.Color
	}{
		"one pixel":              {[]api.Color{red}, []byte{0}, []api.Color{red}},
		"one that isn't rounded": {[]api.Color{odd}, []byte{0}, []api.Color{odd}},
		"a clear one":            {[]api.Color{{R: 9}}, []byte{0}, []api.Color{{R: 9}}},
		"several":                {[]api.Color{black, odd, white}, []byte{2, 0, 1, 1, 2}, []api.Color{white, black, odd, odd, white}},
		"not all are asked for":  {[]api.Color{black, odd, white}, []byte{1}, []api.Color{odd}},
		"the same twice":         {[]api.Color{odd, odd}, []byte{1, 0}, []api.Color{odd, odd}},
	} {
		t.Log(name)
		wantBack(t, api.Paletted{W: len(x.index), H: 1, Palette: x.palette, Index: x.index}, probe.Row(x.want...))
		wantBack(t, api.Paletted{W: 1, H: len(x.index), Palette: x.palette, Index: x.index}, probe.ImageOf(1, len(x.index), x.want))
	}
}

// P14.3: images of each size, by palettes of many lengths.
func TestBack(t *testing.T) {
	for i, s := range probe.Sizes() {
		for _, n := range []int{1, 2, 3, 100, 255, 256} {
			palette := probe.Colors(uint32(i), n)
			index := probe.Noise(uint32(n), s.W*s.H)
			var want []api.Color
			for k := range index {
				index[k] = byte(int(index[k]) % n)
				want = append(want, palette[index[k]])
			}
			wantBack(t, api.Paletted{W: s.W, H: s.H, Palette: palette, Index: index}, probe.ImageOf(s.W, s.H, want))
		}
	}
}

// P14.3: sizes that no image has, whatever else is wrong.
func TestNotBackSizes(t *testing.T) {
	for _, s := range probe.WrongSizes() {
		for _, n := range []int{0, 1, 4, min(max(s.W*s.H, 0), 1<<17)} {
			for _, palette := range [][]api.Color{nil, {black}, make([]api.Color, 257)} {
				for _, x := range []byte{0, 9} {
					wantNotBack(t, api.Paletted{W: s.W, H: s.H, Palette: palette, Index: slices.Repeat([]byte{x}, n)}, api.ErrSize)
				}
			}
		}
	}
}

// P14.3: too few places and too many, and palettes too long, whatever the places
// are.
func TestNotBackLengths(t *testing.T) {
	for _, s := range probe.Sizes() {
		n := s.W * s.H
		for _, wrong := range []int{0, n - s.W, n - 1, n + 1, n + s.W, 2 * n, 4 * n} {
			if wrong == n {
				continue
			}
			for _, palette := range [][]api.Color{nil, {black}, make([]api.Color, 256), make([]api.Color, 257)} {
				for _, x := range []byte{0, 200} {
					wantNotBack(t, api.Paletted{W: s.W, H: s.H, Palette: palette, Index: slices.Repeat([]byte{x}, wrong)}, api.ErrLong)
				}
			}
		}
		for _, colors := range []int{257, 258, 512, 65536} {
			for _, x := range []byte{0, 255} {
				wantNotBack(t, api.Paletted{W: s.W, H: s.H, Palette: make([]api.Color, colors), Index: slices.Repeat([]byte{x}, n)}, api.ErrLong)
			}
		}
	}
}

// P14.3: places without a colour, wherever they stand.
func TestNotBackPlaces(t *testing.T) {
	for _, n := range []int{0, 1, 2, 100, 254, 255} {
		palette := probe.Colors(1, n)
		for _, x := range []int{n, n + 1, 255} {
			if x > 255 {
				continue
			}
			for at := range 12 {
				p := api.Paletted{W: 4, H: 3, Palette: palette, Index: make([]byte, 12)}
				p.Index[at] = byte(x)
				wantNotBack(t, p, api.ErrRange)
			}
		}
	}
	// What stands behind a palette in its list is no colour of it.
	all := probe.Colors(2, 9)
	wantNotBack(t, api.Paletted{W: 1, H: 1, Palette: all[:5], Index: []byte{5}}, api.ErrRange)
	wantNotBack(t, api.Paletted{W: 1, H: 1, Palette: all[:0], Index: []byte{0}}, api.ErrRange)
	wantBack(t, api.Paletted{W: 1, H: 1, Palette: all[5:6], Index: []byte{0}}, probe.Row(all[5]))
}
