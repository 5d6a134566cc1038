package tones_test

import (
	"testing"

	"darkroom/api"
	"darkroom/tones"
)

// P8.1: outcomes that are known from elsewhere.
func TestKnownUp(t *testing.T) {
	for _, c := range [][3]int{
		{0, 1, 0}, {1, 1, 65535}, {0, 2, 0}, {1, 2, 32768}, {2, 2, 65535},
		{1, 3, 21845}, {2, 3, 43690}, {1, 4, 16384}, {2, 4, 32768}, {3, 4, 49151},
		{1, 7, 9362}, {6, 7, 56173}, {7, 7, 65535}, {1, 9, 7282}, {5, 9, 36408}, {8, 9, 58253},
		{1, 15, 4369}, {8, 15, 34952}, {1, 31, 2114}, {30, 31, 63421}, {1, 63, 1040}, {62, 63, 64495},
		{1, 100, 655}, {50, 100, 32768}, {99, 100, 64880},
		{1, 255, 257}, {127, 255, 32639}, {128, 255, 32896}, {254, 255, 65278},
		{1, 256, 256}, {128, 256, 32768}, {255, 256, 65279}, {1, 999, 66}, {500, 999, 32800}, {998, 999, 65469},
		{1, 32768, 2}, {32767, 32768, 65533}, {1, 43690, 2}, {2, 43690, 3}, {3, 43690, 5},
		{1, 65534, 1}, {65533, 65534, 65534}, {0, 65535, 0}, {32768, 65535, 32768}, {65535, 65535, 65535},
	} {
		wantUp(t, c[0], c[1], c[2])
	}
}

// P8.1: numbers that stand just at a rounding's one side, and just at its other.
func TestUpRounding(t *testing.T) {
	for _, c := range [][3]int{
		{1, 2, 32768}, {2, 4, 32768}, {1, 6, 10923}, {3, 6, 32768}, {4, 7, 37449}, {16, 31, 33825}, {10, 100, 6554},
		{106, 127, 54699}, {128, 256, 32768}, {340, 511, 43605}, {16384, 32767, 32769}, {49150, 65533, 49152}, {32767, 65534, 32768},
		{3, 4, 49151}, {3, 7, 28086}, {15, 31, 31710}, {21, 127, 10836}, {129, 256, 33023}, {171, 511, 21930},
		{2049, 4096, 32783}, {16383, 32767, 32766}, {16385, 32768, 32769}, {16383, 65533, 16383}, {32766, 65534, 32766},
	} {
		wantUp(t, c[0], c[1], c[2])
	}
}

// P8.1: the last sample that is one number, and the first one that is the next.
func TestDownRounding(t *testing.T) {
	for _, c := range []struct{ most, below, at int }{
		{1, 0, 32768}, {2, 0, 16384}, {2, 1, 49152}, {3, 0, 10923}, {3, 1, 32768}, {3, 2, 54613},
		{4, 0, 8192}, {4, 2, 40960}, {5, 2, 32768}, {7, 0, 4682}, {7, 6, 60854}, {9, 0, 3641}, {9, 8, 61895},
		{15, 0, 2185}, {15, 14, 63351}, {31, 0, 1058}, {31, 30, 64478}, {63, 0, 521}, {63, 62, 65015},
		{100, 50, 33096}, {255, 0, 129}, {255, 127, 32768}, {255, 254, 65407}, {256, 0, 128}, {256, 128, 32896},
		{999, 0, 33}, {999, 998, 65503}, {4095, 4094, 65527}, {32768, 0, 1}, {32768, 16384, 32769},
		{65534, 0, 1}, {65534, 32767, 32769}, {65534, 65533, 65535}, {65535, 0, 1}, {65535, 65534, 65535},
	} {
		wantDown(t, c.at-1, c.most, c.below)
		wantDown(t, c.at, c.most, c.below+1)
	}
}

// P8.1, P8.5: every v, and every sample, at the depths that files have.
func TestEachDepth(t *testing.T) {
	t.Parallel()
	for _, depth := range []int{1, 2, 3, 4, 5, 6, 8, 16} {
		wantDepth(t, 1<<depth-1)
	}
}

// P8.1, P8.5: every v, and every sample, at mosts of other kinds too.
func TestOtherMosts(t *testing.T) {
	t.Parallel()
	for _, most := range mosts() {
		wantDepth(t, most)
	}
}

func wantDepth(t *testing.T, most int) {
	t.Helper()
	last := -1
	for v := range most + 1 {
		u := plainUp(v, most)
		wantUp(t, v, most, u)
		wantDown(t, u, most, v)
		if u <= last {
			t.Fatalf("Up(%d, %d) = %d, behind %d", v, most, u, last)
		}
		last = u
	}
	wantUp(t, 0, most, 0)
	wantUp(t, most, most, 65535)
	for v := range 65536 {
		wantDown(t, v, most, plainDown(v, most))
	}
}

// P8.1, P8.5: every most, with some numbers each.
func TestEveryMost(t *testing.T) {
	t.Parallel()
	samples := []int{0, 1, 2, 255, 256, 16384, 32767, 32768, 50000, 65533, 65534, 65535}
	for most := 1; most <= 65535; most++ {
		step := max(1, most/23)
		for v := 0; v <= most; v += step {
			wantBack(t, v, most)
		}
		for _, v := range []int{most - 1, most, most / 2, (most + 1) / 2, most / 3} {
			wantBack(t, v, most)
		}
		for _, v := range samples {
			wantDown(t, v, most, plainDown(v, most))
		}
		wantNoUp(t, -1, most)
		wantNoUp(t, most+1, most)
	}
}

// wantBack wants Up's outcome, and Down's of that.
func wantBack(t *testing.T, v, most int) {
	t.Helper()
	u := plainUp(v, most)
	wantUp(t, v, most, u)
	wantDown(t, u, most, v)
}

// P8.1: a most that may not be is refused with any number.
func TestWrongMost(t *testing.T) {
	for _, most := range wrongMosts() {
		for _, v := range append(far(), most, most-1, most+1, most/2, -1, 0, 1, 2, 255, 65534, 65535, 65536) {
			wantNoUp(t, v, most)
			wantNoDown(t, uint16(v), most)
		}
	}
	for v := range 65536 {
		for _, most := range []int{-1, 0, 65536} {
			wantNoUp(t, v, most)
			wantNoDown(t, uint16(v), most)
		}
	}
}

// P8.1: a v that may not be is refused with any most.
func TestWrongV(t *testing.T) {
	for _, most := range mosts() {
		for _, v := range append(far(), -1, -2, -most, most+1, most+2, 2*most+1, 65536, 65537) {
			wantNoUp(t, v, most)
		}
	}
}

// The chapter's examples.
func TestDepthExamples(t *testing.T) {
	wantUp(t, 1, 1, 65535)
	wantUp(t, 1, 31, 2114)
	wantDown(t, 65535, 255, 255)
	wantDown(t, 128, 255, 0)
	wantDown(t, 129, 255, 1)
	if u, e := tones.Up(2, 1); u != 0 || e != api.ErrRange {
		t.Error(u, e)
	}
}
