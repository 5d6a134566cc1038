package png_test

import (
	"slices"
	"testing"

	"darkroom/api"
	"darkroom/probe"
)

// palette answers a chunk of so many entries.
func palette(n int) api.Chunk { return api.Chunk{Type: "PLTE", Data: probe.Noise(uint32(n), 3*n)} }

// clearing answers a chunk of such bytes.
func clearing(b ...byte) api.Chunk { return api.Chunk{Type: "tRNS", Data: b} }

// small answers a file of two pixels of a colour and a depth, whose samples are 0 and
// 1 by turns.
func small(depth, colour int) file {
	f := file{width: 2, height: 1, depth: depth, colour: colour}
	for i := range 2 * planes(colour) {
		f.samples = append(f.samples, i%2)
	}
	return f
}

// P13.1: palettes of all lengths, of each colour: of colour 3 there are at most as
// many entries as the depth allows, of 2 and 6 at most 256, which aren't looked at,
// of 0 and 4 none.
func TestPaletteLengths(t *testing.T) {
	for _, colour := range colours() {
		for _, depth := range depths(colour) {
			f := small(depth, colour)
			cs := []api.Chunk{f.head(), {}, pixels(f.rows()), end()}
			data := probe.Noise(uint32(depth), 3*520)
			for n := range data {
				if n > 900 && n%97 != 0 && n%256 > 2 {
					continue
				}
				cs[1] = api.Chunk{Type: "PLTE", Data: data[:n]}
				most := 256
				if colour == 3 {
					most = 1 << depth
				}
				switch {
				case n%3 != 0 || n == 0 || n > 3*most || colour == 0 || colour == 4:
					wantMalformed(t, cs...)
				case colour == 3 && n == 3:
					wantBroken(t, cs...)
				default:
					f.palette = data[:n]
					wantImage(t, bytesOf(cs...), 2, f.image())
				}
			}
		}
	}
}

// P13.1: an entry is red, green and blue.
func TestPaletteEntries(t *testing.T) {
	f := small(8, 3)
	f.palette = []byte{1, 2, 3, 255, 0, 128}
	wantImage(t, f.bytes(), 2, probe.Solid(2, 1, 257, 514, 771, greatest, 0, 32896))
	for v := range 256 {
		f.palette = []byte{byte(v), byte(255 - v), byte(v ^ 85), 0, 0, 0}
		wantImage(t, f.bytes(), 2, probe.Solid(2, 1, uint16(257*v), uint16(257*(255-v)), uint16(257*(v^85)), 0, 0, 0))
	}
}

// P13.1: what is clear, of all lengths, of each colour: two bytes of colour 0, six of
// colour 2, of colour 3 at most as many as entries, of 4 and 6 none.
func TestClearLengths(t *testing.T) {
	for _, colour := range colours() {
		for _, depth := range depths(colour) {
			for _, entries := range []int{1 << depth, 2, 200} {
				f := small(depth, colour)
				cs := []api.Chunk{f.head(), pixels(f.rows()), end()}
				at := 1
				if colour == 3 {
					entries = min(entries, 1<<depth)
					f.palette = palette(entries).Data
					cs, at = with(cs, 1, palette(entries)), 2
				}
				data := probe.Noise(3, 260)
				for n := range data {
					all := with(cs, at, clearing(data[:n]...))
					if colour == 0 && n == 2 || colour == 2 && n == 6 || colour == 3 && n <= entries {
						f.clear = data[:n]
						wantImage(t, bytesOf(all...), 2, f.image())
					} else {
						wantMalformed(t, all...)
					}
				}
			}
		}
	}
}

// P13.1: of colour 3 the first entries have these alphas, the others are solid.
func TestClearEntries(t *testing.T) {
	for a := range 256 {
		f := file{width: 3, height: 1, depth: 2, colour: 3, palette: make([]byte, 12), clear: []byte{byte(a), byte(255 - a)}, samples: []int{1, 0, 2}}
		want := probe.ImageOf(3, 1, []api.Color{{A: uint16(257 * (255 - a))}, {A: uint16(257 * a)}, {A: greatest}})
		wantImage(t, f.bytes(), 3, want)
	}
	f := file{width: 3, height: 1, depth: 2, colour: 3, palette: make([]byte, 12), clear: []byte{}, samples: []int{3, 0, 2}}
	wantImage(t, f.bytes(), 3, probe.Greys(3, 1, 0, 0, 0))
}

// P13.1: of colour 0 the alpha of one sample is nought, held against it as it stands;
// a number that is too great fits none.
func TestClearGrey(t *testing.T) {
	for _, depth := range depths(0) {
		top := 1<<depth - 1
		n := min(top+1, 256)
		f := file{width: n, height: 1, depth: depth}
		for i := range n {
			f.samples = append(f.samples, i*top/(n-1))
		}
		alike := f.image()
		for _, v := range f.samples {
			f.clear = []byte{byte(v >> 8), byte(v)}
			want := api.Image{W: n, H: 1, Pix: slices.Clone(alike.Pix)}
			want.Pix[4*slices.Index(f.samples, v)+3] = 0
			wantImage(t, f.bytes(), n, want)
		}
		for _, v := range []int{top + 1, 2*top + 1, top << depth, 257, 256, 512, 32768, greatest, int(probe.Up(1, top))} {
			if v > top && v <= greatest {
				f.clear = []byte{byte(v >> 8), byte(v)}
				wantImage(t, f.bytes(), n, alike)
			}
		}
	}
	// Neither byte of a sample of depth 16 may differ.
	f := file{width: 4, height: 1, depth: 16, samples: []int{0x1234, 0x1235, 0x1334, 0x3412}, clear: []byte{0x12, 0x34}}
	want := probe.Greys(4, 1, 0x1234, 0x1235, 0x1334, 0x3412)
	want.Pix[3] = 0
	wantImage(t, f.bytes(), 4, want)
}

// P13.1: of colour 2 the alpha is nought where all three samples are these.
func TestClearRgb(t *testing.T) {
	for _, depth := range depths(2) {
		f := file{width: 8, height: 1, depth: depth, colour: 2, clear: []byte{0, 1, 0, 2, 0, 3}}
		var want []uint16
		for i := range 8 {
			s := []int{1, 2, 3}
			for k := range 3 {
				s[k] += 7 * (i >> k & 1)
				want = append(want, probe.Up(s[k], 1<<depth-1))
			}
			f.samples = append(f.samples, s...)
		}
		m := probe.Solid(8, 1, want...)
		m.Pix[3] = 0
		wantImage(t, f.bytes(), 8, m)
		// In another order, and with a number that is too great for eight bits.
		for _, other := range [][]byte{{0, 3, 0, 2, 0, 1}, {0, 2, 0, 1, 0, 3}, {1, 1, 0, 2, 0, 3}, {0, 1, 1, 2, 0, 3}, {0, 1, 0, 2, 1, 3}} {
			f.clear = other
			wantImage(t, f.bytes(), 8, probe.Solid(8, 1, want...))
		}
	}
}

// P13.1: where a palette may stand: once, ahead of the pixels and of what is clear.
func TestPalettePlace(t *testing.T) {
	for _, colour := range []int{2, 3, 6} {
		f := small(8, colour)
		f.palette = palette(2).Data
		cs := f.chunks()
		wantImage(t, bytesOf(cs...), 2, f.image())
		none := slices.Delete(slices.Clone(cs), 1, 2)
		for at := 2; at <= 3; at++ {
			wantMalformed(t, with(cs, at, palette(2))...)
		}
		wantMalformed(t, with(cs, 1, palette(2))...)
		wantMalformed(t, with(none, 2, palette(2))...)
		note := api.Chunk{Type: "tEXt", Data: palette(2).Data}
		wantImage(t, bytesOf(with(with(cs, 2, note), 1, note)...), 2, f.image())
		wantMalformed(t, with(with(cs, 2, note), 3, palette(2))...)
		switch colour {
		case 3:
			f.clear = []byte{9, 200}
			wantMalformed(t, none...)
			wantMalformed(t, with(none, 1, clearing(9, 200), palette(2))...)
			wantMalformed(t, with(none, 1, clearing(), palette(2))...)
			wantMalformed(t, with(none, 1, clearing(9, 200))...)
		case 2:
			f.clear = []byte{0, 0, 0, 1, 0, 0}
			wantMalformed(t, with(none, 1, clearing(f.clear...), palette(2))...)
			wantMalformed(t, with(none, 1, clearing(f.clear...), note, palette(2))...)
		case 6:
			continue
		}
		wantImage(t, bytesOf(with(cs, 2, clearing(f.clear...))...), 2, f.image())
		wantMalformed(t, with(cs, 2, clearing(f.clear...), palette(2))...)
		wantMalformed(t, with(cs, 2, clearing(f.clear...), note, palette(2))...)
	}
}

// P13.1: where what is clear may stand: once, ahead of the pixels.
func TestClearPlace(t *testing.T) {
	for _, colour := range []int{0, 2, 3} {
		f := small(8, colour)
		f.clear = slices.Repeat([]byte{0, 1}, planes(colour))
		if colour == 3 {
			f.palette = palette(2).Data
		}
		cs := f.chunks()
		at := len(cs) - 2
		wantImage(t, bytesOf(cs...), 2, f.image())
		note := api.Chunk{Type: "tRNs", Data: f.clear}
		wantImage(t, bytesOf(with(with(cs, at, note), at-1, note)...), 2, f.image())
		wantMalformed(t, with(cs, at, clearing(f.clear...))...)
		wantMalformed(t, with(cs, at, note, clearing(f.clear...))...)
		wantMalformed(t, with(cs, at+1, clearing(f.clear...))...)
		none := slices.Delete(slices.Clone(cs), at-1, at)
		wantMalformed(t, with(none, at, clearing(f.clear...))...)
		wantMalformed(t, with(none, at, note, clearing(f.clear...))...)
	}
}

// P13.1: pixels' chunks stand side by side, however their data are cut; there is one
// at least.
func TestPixelsPlace(t *testing.T) {
	f := noisy(1, 5, 4, 8, 2)
	z := zipped(f.rows())
	of := func(parts ...[]byte) []api.Chunk {
		cs := []api.Chunk{f.head()}
		for _, b := range parts {
			cs = append(cs, api.Chunk{Type: "IDAT", Data: b})
		}
		return append(cs, end())
	}
	for i := range len(z) + 1 {
		cs := of(z[:i], z[i:])
		wantImage(t, bytesOf(cs...), 20, f.image())
		for _, between := range []string{"tEXt", "abcd", "IDAT"} {
			c := api.Chunk{Type: between}
			if between == "IDAT" {
				wantImage(t, bytesOf(with(cs, 2, c)...), 20, f.image())
				continue
			}
			wantMalformed(t, with(cs, 2, c)...)
			wantImage(t, bytesOf(with(with(cs, 3, c), 1, c)...), 20, f.image())
			wantMalformed(t, with(cs, 3, c, of()[0], api.Chunk{Type: "IDAT"})...)
			wantMalformed(t, with(cs, 3, c, api.Chunk{Type: "IDAT"})...)
		}
		wantUnsupported(t, with(cs, 2, api.Chunk{Type: "ABCD"})...)
		if i > 0 && i < len(z) {
			wantBroken(t, of(z[i:], z[:i])...)
			wantBroken(t, of(z[:i])...)
			wantBroken(t, of(z[i:])...)
		}
	}
	wantImage(t, bytesOf(of(slices.Collect(slices.Chunk(z, 1))...)...), 20, f.image())
	wantImage(t, bytesOf(of(nil, nil, z, nil)...), 20, f.image())
	wantMalformed(t, of()...)
	wantBroken(t, of(nil)...)
	wantBroken(t, of(nil, nil)...)
}

// P13.1: of colour 3 there is a palette, and of all colours a chunk of pixels, when
// the end comes; what else is wrong with pixels is looked for later.
func TestMissing(t *testing.T) {
	for _, colour := range colours() {
		f := small(8, colour)
		if colour == 3 {
			f.palette = palette(2).Data
		}
		cs := f.chunks()
		at := len(cs) - 2
		wantMalformed(t, slices.Delete(slices.Clone(cs), at, at+1)...)
		for _, typ := range []string{"iDAT", "IDaT"} {
			other := slices.Clone(cs)
			other[at].Type = typ
			if typ == "iDAT" {
				wantMalformed(t, other...)
			} else {
				wantUnsupported(t, other...)
			}
		}
		if colour == 3 {
			none := slices.Delete(slices.Clone(cs), 1, 2)
			wantMalformed(t, none...)
			wantMalformed(t, with(none, 1, api.Chunk{Type: "sPLT", Data: f.palette})...)
			// It may yet come, for all that is known at the pixels.
			wantUnsupported(t, with(none, 2, api.Chunk{Type: "ABCD"})...)
			wantMalformed(t, with(none, 2, palette(2), api.Chunk{Type: "ABCD"})...)
			wantMalformed(t, with(none, 1, clearing(1), api.Chunk{Type: "ABCD"})...)
			wantMalformed(t, with(none, 1, clearing(), api.Chunk{Type: "ABCD"})...)
		}
		if colour == 2 {
			wantUnsupported(t, with(cs, 1, clearing(0, 0, 0, 0, 0, 0), api.Chunk{Type: "ABCD"}, palette(2))...)
			wantMalformed(t, with(cs, 1, clearing(0, 0, 0, 0, 0, 0), palette(2), api.Chunk{Type: "ABCD"})...)
		}
	}
}

// P13.1: the end has no data.
func TestEndWithData(t *testing.T) {
	for _, data := range [][]byte{{0}, {1, 2, 3}, make([]byte, 1000)} {
		cs := dot()
		cs[2].Data = data
		wantMalformed(t, cs...)
		wantMalformed(t, with(cs, 3, dot()...)...)
		wantMalformed(t, cs[0], cs[2])
	}
	// What stands behind the first end isn't looked at.
	wantImage(t, bytesOf(append(dot(), palette(1), dot()[0], api.Chunk{Type: "ABCD"}, end())...), 1, dotImage())
}

// P13.1: any other type with a capital first letter is unsupported, with a small one
// it isn't looked at, wherever it stands.
func TestOtherTypes(t *testing.T) {
	good := dot()
	for _, typ := range []string{"ABCD", "ZZZZ", "AbCd", "Zaaa", "IHDr", "IHdR", "IhDR", "PLTe", "TRNS", "TRns", "IDAt", "IENd", "IEnD", "DATI", "MHDR", "JDAT"} {
		for at := 1; at < 3; at++ {
			for _, data := range [][]byte{nil, {1}, good[0].Data, good[1].Data} {
				c := api.Chunk{Type: typ, Data: data}
				wantUnsupported(t, with(good, at, c)...)
				wantUnsupported(t, with(good, at, c, api.Chunk{Type: "PLTE"})...)
				wantMalformed(t, with(good, at, api.Chunk{Type: "PLTE"}, c)...)
				wantUnsupported(t, with(good, at, c, api.Chunk{Type: "IHDR"})...)
				wantMalformed(t, with(good, at, api.Chunk{Type: "IHDR"}, c)...)
			}
		}
		wantMalformed(t, with(changed(good, 0, atOrder, 2), 1, api.Chunk{Type: typ})...)
		// An end that may not be stands behind it.
		wantUnsupported(t, good[0], api.Chunk{Type: typ}, api.Chunk{Type: "IEND", Data: []byte{1}})
	}
	for _, typ := range []string{"abcd", "zzzz", "aBCD", "zZZZ", "iHDR", "ihdr", "pLTE", "tRNs", "trNS", "tRnS", "iDAT", "iEND", "gAMA", "tEXt", "sBIT", "bKGD", "acTL", "fdAT"} {
		for at := 1; at < 3; at++ {
			for _, data := range [][]byte{nil, {1}, good[0].Data, good[1].Data, bytesOf(good...)} {
				c := api.Chunk{Type: typ, Data: data}
				wantImage(t, bytesOf(with(good, at, c)...), 1, dotImage())
				wantImage(t, bytesOf(with(good, at, c, c, c)...), 1, dotImage())
			}
		}
	}
}
