package bmp_test

import (
	"math"
	"testing"

	"darkroom/api"
	"darkroom/bmp"
	"darkroom/probe"
)

// R3: nil and an empty list are one.
func TestNilIsEmpty(t *testing.T) {
	for _, b := range [][]byte{nil, {}, make([]byte, 0, 100)} {
		wantMalformed(t, b)
	}
	for _, pix := range [][]uint16{nil, {}, make([]uint16, 0, 50)} {
		for _, m := range []api.Image{{W: 1, H: 1, Pix: pix}, {Pix: pix}} {
			if b, e := bmp.Encode(m, true); e != api.ErrImage || len(b) != 0 {
				t.Error(m, b, e)
			}
		}
	}
}

// R2, R4: what is handed in stays, spare room included, and isn't read there nor
// kept; what is answered is new memory, spare room included.
func TestKeepsAndSharesNothing(t *testing.T) {
	m := probe.Image(1, 3, 2)
	for _, alpha := range []bool{false, true} {
		for _, n := range []int{24, 23, 0} {
			if s := probe.Kept(m.Pix[:n], func(pix []uint16) ([]uint16, api.Errno) {
				b, e := bmp.Encode(api.Image{W: 3, H: 2, Pix: pix}, alpha)
				return probe.Wide(b), e
			}); s != "" {
				t.Errorf("Encode, alpha %v: %s", alpha, s)
			}
		}
	}
	for _, b := range smallFiles() {
		for _, n := range []int{len(b), len(b) - 1, len(b) - 4, len(b) - 8, 53, 20, 17, 0} {
			if s := probe.Kept(b[:max(n, 0)], func(b []byte) ([]byte, api.Errno) {
				m, e := bmp.Decode(b, plenty)
				return probe.Narrow(m.Pix), e
			}); s != "" {
				t.Errorf("Decode(%s): %s", told(b[:n]), s)
			}
		}
	}
}

// R4: answers share no memory with one another.
func TestAnswersAreNew(t *testing.T) {
	for _, alpha := range []bool{false, true} {
		encode := func(m api.Image) ([]byte, api.Errno) { return bmp.Encode(m, alpha) }
		decode := func(b []byte) (api.Image, api.Errno) { return bmp.Decode(b, plenty) }
		if s := probe.Apart(encode, decode); s != "" {
			t.Error(alpha, s)
		}
	}
}

// R5, R6: the same call answers the same, whatever was asked ahead of it and is
// asked beside it.
func TestSameAnswers(t *testing.T) {
	t.Parallel()
	files := smallFiles()
	for i := range len(files) {
		files = append(files, probe.Changed(files[i], []byte{0, 1, 2, 4, 16, 40, 255}, uint32(i)))
	}
	images := []api.Image{probe.Image(1, 3, 2), probe.Image(2, 9, 1), {}, probe.Sampled(2, 2, 15), probe.Image(3, 1, 20)}
	if s := probe.Steady(3*len(files), func(i int) ([]byte, api.Errno) {
		if i%3 == 0 {
			return bmp.Encode(images[i%len(images)], i%2 == 0)
		}
		m, e := bmp.Decode(files[i/3], 4*(i%3)+1)
		return append(probe.Narrow(m.Pix), byte(m.W), byte(m.H)), e
	}); s != "" {
		t.Error(s)
	}
}

// R1: no call panics or goes on for ever, whatever it is given.
func TestNoPanic(t *testing.T) {
	for _, m := range []api.Image{{}, probe.Image(1, 1, 1), probe.Sampled(1, 1, 3), probe.Sampled(1<<62, 4, 0), probe.Sampled(-1, -1, 4), probe.Sampled(math.MinInt, 1, 4)} {
		_, _ = bmp.Encode(m, false)
		_, _ = bmp.Encode(m, true)
	}
	for _, most := range append(probe.Far(), -1, 0, 1, 5) {
		for _, b := range smallFiles() {
			_, _ = bmp.Decode(b, most)
		}
	}
	for seed := range uint32(3000) {
		b := probe.Noise(seed, 1000)
		good := smallFiles()[seed%60]
		copy(b, good[:30+seed%30])
		_, _ = bmp.Decode(b, math.MaxInt)
	}
}
