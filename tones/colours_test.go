package tones_test

import (
	"testing"

	"darkroom/api"
	"darkroom/probe"
	"darkroom/tones"
)

// P8.2: outcomes that are known from elsewhere, those of both sides of a
// rounding among them.
func TestKnownLuma(t *testing.T) {
	for _, c := range []struct{ r, g, b, luma uint16 }{
		{0, 0, 0, 0}, {65535, 0, 0, 19595}, {0, 65535, 0, 38469}, {0, 0, 65535, 7471}, {65535, 65535, 65535, 65535},
		{1, 0, 0, 0}, {2, 0, 0, 1}, {0, 1, 0, 1}, {0, 0, 1, 0}, {0, 0, 4, 0}, {0, 0, 5, 1},
		{1, 2, 3, 2}, {1000, 2000, 3000, 1815}, {12345, 54321, 32768, 39313},
		{65535, 65535, 0, 58064}, {0, 65535, 65535, 45940}, {65535, 0, 65535, 27066},
		{65534, 65535, 65535, 65535}, {65535, 65534, 65535, 65534}, {65535, 65535, 65531, 65535}, {65535, 65535, 65530, 65534},
		{32767, 0, 0, 9797}, {32768, 0, 0, 9798}, {50397, 0, 0, 15068}, {50398, 0, 0, 15069},
		{0, 16383, 0, 9617}, {0, 16384, 0, 9618}, {0, 0, 32767, 3735}, {0, 0, 32768, 3736}, {0, 0, 13873, 1581}, {0, 0, 13874, 1582},
	} {
		wantLuma(t, api.Color{R: c.r, G: c.g, B: c.b, A: 65535}, c.luma)
	}
}

// P8.2: every number of each sample, the others being 0, 65535 or something
// else.
func TestLumaOfEachSample(t *testing.T) {
	for _, rest := range []uint16{0, 1, 12345, 32767, 32768, 65534, 65535} {
		for v := range 65536 {
			s := uint16(v)
			for _, c := range []api.Color{{R: s, G: rest, B: rest}, {R: rest, G: s, B: rest}, {R: rest, G: rest, B: s}, {R: s, G: s, B: rest}} {
				wantLuma(t, c, plainLuma(c))
			}
		}
	}
}

// P8.2: alpha isn't looked at.
func TestLumaWithoutAlpha(t *testing.T) {
	for _, c := range probe.Colors(1, 200000) {
		want := plainLuma(c)
		for _, a := range []uint16{c.A, 0, 1, 65535} {
			c.A = a
			wantLuma(t, c, want)
		}
	}
}

// P8.5: the luma of a grey is that grey.
func TestLumaOfGrey(t *testing.T) {
	for v := range 65536 {
		s := uint16(v)
		wantLuma(t, api.Color{R: s, G: s, B: s, A: ^s}, s)
	}
}

// A way is one of the two between red, green and blue, and luma and chroma.
type way struct {
	name  string
	do    func(a, b, c int) (int, int, int)
	plain func(c [3]int) [3]int
}

func ways() []way {
	return []way{{"Ycc", tones.Ycc, plainYcc}, {"Rgb", tones.Rgb, plainRgb}}
}

func (w way) want(t *testing.T, c, want [3]int) {
	var got [3]int
	if got[0], got[1], got[2] = w.do(c[0], c[1], c[2]); got != want {
		t.Helper()
		t.Fatalf("%s%v = %v; want %v", w.name, c, got, want)
	}
}

// P8.3: outcomes that are known from elsewhere, those next to a rounding among
// them.
func TestKnownYcc(t *testing.T) {
	for c, want := range map[[3]int][3]int{
		{0, 0, 0}: {0, 128, 128}, {255, 255, 255}: {255, 128, 128}, {128, 128, 128}: {128, 128, 128}, {1, 1, 1}: {1, 128, 128},
		{255, 0, 0}: {76, 85, 255}, {0, 255, 0}: {150, 44, 21}, {0, 0, 255}: {29, 255, 107},
		{255, 255, 0}: {226, 1, 149}, {0, 255, 255}: {179, 171, 1}, {255, 0, 255}: {105, 212, 235},
		{1, 2, 3}: {2, 129, 127}, {10, 200, 30}: {124, 75, 47}, {200, 100, 50}: {124, 86, 182},
		{1, 0, 0}: {0, 128, 129}, {0, 1, 0}: {1, 128, 128}, {0, 0, 1}: {0, 129, 128}, {0, 0, 2}: {0, 129, 128}, {0, 0, 3}: {0, 130, 128},
		{0, 1, 1}: {1, 128, 128}, {0, 2, 2}: {1, 128, 127}, {0, 3, 3}: {2, 129, 127},
		{0, 52, 183}: {51, 202, 91}, {0, 52, 184}: {52, 203, 91}, {0, 62, 229}: {62, 222, 83}, {0, 62, 230}: {63, 222, 83},
		{254, 0, 0}: {76, 85, 255}, {255, 1, 0}: {77, 85, 255}, {0, 0, 254}: {29, 255, 107}, {0, 1, 255}: {30, 255, 107},
	} {
		ways()[0].want(t, c, want)
	}
}

// P8.3: outcomes that are known from elsewhere: quotients below nought, those
// next to a rounding, and such that come to just 0 or 255, or one further.
func TestKnownRgb(t *testing.T) {
	for c, want := range map[[3]int][3]int{
		{0, 128, 128}: {0, 0, 0}, {255, 128, 128}: {255, 255, 255}, {128, 128, 128}: {128, 128, 128},
		{76, 85, 255}: {254, 0, 0}, {150, 44, 21}: {0, 255, 1}, {29, 255, 107}: {0, 0, 254},
		{0, 0, 0}: {0, 135, 0}, {255, 255, 255}: {255, 121, 255}, {255, 255, 0}: {76, 255, 255}, {255, 0, 255}: {255, 208, 28},
		{0, 255, 0}: {0, 48, 225}, {0, 0, 255}: {178, 0, 0}, {50, 140, 120}: {39, 52, 71}, {201, 99, 160}: {246, 188, 150},
		{128, 0, 0}: {0, 255, 0}, {128, 255, 255}: {255, 0, 255}, {128, 0, 255}: {255, 81, 0}, {128, 255, 0}: {0, 176, 255},
		{100, 128, 127}: {99, 101, 100}, {100, 127, 128}: {100, 100, 98},
		{100, 128, 77}: {28, 136, 100}, {100, 128, 76}: {27, 137, 100}, {100, 128, 179}: {172, 64, 100}, {100, 128, 180}: {173, 63, 100},
		{100, 60, 128}: {100, 123, 0}, {100, 196, 128}: {100, 77, 220}, {100, 3, 128}: {100, 143, 0}, {100, 253, 128}: {100, 57, 255},
		{1, 128, 127}: {0, 2, 1}, {2, 128, 126}: {0, 3, 2}, {77, 85, 255}: {255, 1, 1}, {78, 85, 255}: {255, 2, 2},
		{1, 128, 129}: {2, 0, 1}, {0, 129, 129}: {1, 0, 2}, {150, 44, 22}: {1, 255, 1}, {151, 44, 21}: {1, 255, 2},
		{2, 127, 128}: {2, 2, 0}, {1, 127, 128}: {1, 1, 0}, {30, 255, 107}: {1, 1, 255}, {31, 255, 107}: {2, 2, 255},
	} {
		ways()[1].want(t, c, want)
	}
}

// P8.3: all of the numbers from 0 to 255.
func TestAllOfEightBits(t *testing.T) {
	for _, w := range ways() {
		t.Run(w.name, func(t *testing.T) {
			t.Parallel()
			for i := range 1 << 24 {
				c := [3]int{i >> 16, i >> 8 & 255, i & 255}
				w.want(t, c, w.plain(c))
			}
		})
	}
}

// P8.3: each number that is handed in is clamped first.
func TestClampedFirst(t *testing.T) {
	list := append(far(), -257, -256, -255, -129, -128, -127, -2, -1, 0, 1, 64, 127, 128, 129, 200, 254, 255, 256, 257, 383, 384, 511, 512, 1000, 65535, 65536)
	for _, w := range ways() {
		for _, a := range list {
			for _, b := range list {
				for _, c := range list {
					w.want(t, [3]int{a, b, c}, w.plain([3]int{clamped(a), clamped(b), clamped(c)}))
				}
			}
		}
	}
}

// P8.3: a grey has no chroma.
func TestGreys(t *testing.T) {
	for v := range 256 {
		ways()[0].want(t, [3]int{v, v, v}, [3]int{v, 128, 128})
		ways()[1].want(t, [3]int{v, 128, 128}, [3]int{v, v, v})
	}
}
