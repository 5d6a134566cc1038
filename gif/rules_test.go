package gif_test

import (
	"math"
	"testing"

	"darkroom/api"
	"darkroom/gif"
	"darkroom/probe"
)

// R3: nil and an empty list are one.
func TestNilIsEmpty(t *testing.T) {
	for _, b := range [][]byte{nil, {}, make([]byte, 0, 100)} {
		wantMalformed(t, b)
	}
	for _, pix := range [][]uint16{nil, {}, make([]uint16, 0, 50)} {
		for _, m := range []api.Image{{W: 1, H: 1, Pix: pix}, {Pix: pix}} {
			if b, e := gif.Encode(m); e != api.ErrImage || len(b) != 0 {
				t.Error(m, b, e)
			}
		}
	}
}

// R2, R4: what is handed in stays, spare room included, and isn't read there nor
// kept; what is answered is new memory, spare room included.
func TestKeepsAndSharesNothing(t *testing.T) {
	for i, m := range []api.Image{probe.Image(1, 3, 2), probe.Row(probe.Eights(6)...), probe.ImageOf(2, 3, []api.Color{hole, red, red, hole, white, black})} {
		for _, n := range []int{24, 23, 0} {
			if s := probe.Kept(m.Pix[:n], func(pix []uint16) ([]uint16, api.Errno) {
				b, e := gif.Encode(api.Image{W: m.W, H: m.H, Pix: pix})
				return probe.Wide(b), e
			}); s != "" {
				t.Errorf("Encode, %d: %s", i, s)
			}
		}
	}
	files, _ := smallFiles()
	for i, f := range files {
		b := f.bytes()
		if i%3 == 0 {
			b = probe.Changed(b, []byte{0, 1, 44, 128, 249, 255}, uint32(i))
		}
		for _, n := range []int{len(b), len(b) - 1, len(b) - 2, len(b) - 3, 30, 20, 13, 6, 0} {
			n = max(min(n, len(b)), 0)
			if s := probe.Kept(b[:n], func(b []byte) ([]byte, api.Errno) {
				m, e := gif.Decode(b, plenty)
				return probe.Narrow(m.Pix), e
			}); s != "" {
				t.Errorf("Decode(%s): %s", told(b[:n]), s)
			}
		}
	}
}

// R4: answers share no memory with one another.
func TestAnswersAreNew(t *testing.T) {
	decode := func(b []byte) (api.Image, api.Errno) { return gif.Decode(b, plenty) }
	if s := probe.Apart(gif.Encode, decode); s != "" {
		t.Error(s)
	}
}

// R5, R6: the same call answers the same, whatever was asked ahead of it and is
// asked beside it.
func TestSameAnswers(t *testing.T) {
	t.Parallel()
	var all [][]byte
	files, _ := smallFiles()
	for i, f := range files {
		all = append(all, f.bytes(), probe.Changed(f.bytes(), []byte{0, 1, 2, 33, 44, 128, 255}, uint32(i)))
	}
	images := []api.Image{probe.Image(1, 3, 2), probe.Image(2, 9, 1), {}, probe.Sampled(2, 2, 15), probe.Image(3, 30, 20), probe.Row(append(probe.Eights(300), hole)...), probe.Row(hole)}
	if s := probe.Steady(3*len(all), func(i int) ([]byte, api.Errno) {
		if i%3 == 0 {
			return gif.Encode(images[i/3%len(images)])
		}
		m, e := gif.Decode(all[i/3], 10*(i%3)+1)
		return append(probe.Narrow(m.Pix), byte(m.W), byte(m.H)), e
	}); s != "" {
		t.Error(s)
	}
}

// R1: no call panics or goes on for ever, whatever it is given.
func TestNoPanic(t *testing.T) {
	for _, m := range []api.Image{{}, probe.Image(1, 1, 1), probe.Sampled(1, 1, 3), probe.Sampled(1<<62, 4, 0), probe.Sampled(-1, -1, 4), probe.Sampled(math.MinInt, 1, 4)} {
		_, _ = gif.Encode(m)
	}
	files, _ := smallFiles()
	for _, most := range append(probe.Far(), -1, 0, 1, 5) {
		for _, f := range files {
			_, _ = gif.Decode(f.bytes(), most)
		}
	}
	for seed := range uint32(20000) {
		b := files[int(seed)%len(files)].bytes()
		noise := probe.Noise(seed, 400)
		copy(noise, b[:10+int(seed)%50%(len(b)-10)])
		_, _ = gif.Decode(noise, math.MaxInt)
		_, _ = gif.Decode(append(b[:len(b)/2], noise...), math.MaxInt)
	}
}
