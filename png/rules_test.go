package png_test

import (
	"math"
	"testing"

	"darkroom/api"
	"darkroom/png"
	"darkroom/probe"
)

// R3: nil and an empty list are one.
func TestNilIsEmpty(t *testing.T) {
	for _, b := range [][]byte{nil, {}, make([]byte, 0, 100)} {
		wantFault(t, b, plenty, api.ErrMalformed)
	}
	for _, pix := range [][]uint16{nil, {}, make([]uint16, 0, 50)} {
		wantNoFile(t, api.Image{W: 1, H: 1, Pix: pix}, 6, 8, api.ErrImage)
		wantNoFile(t, api.Image{Pix: pix}, 6, 8, api.ErrImage)
	}
}

// R2, R4: what is handed in stays, spare room included, and isn't read there nor
// kept; what is answered is new memory, spare room included.
func TestKeepsAndSharesNothing(t *testing.T) {
	m := probe.Image(1, 3, 2)
	for _, colour := range append(written(), 3) {
		for _, depth := range []int{8, 16, 4} {
			for _, n := range []int{24, 23, 0} {
				if s := probe.Kept(m.Pix[:n], func(pix []uint16) ([]uint16, api.Errno) {
					b, e := png.Encode(api.Image{W: 3, H: 2, Pix: pix}, colour, depth)
					return probe.Wide(b), e
				}); s != "" {
					t.Errorf("Encode, %d, %d: %s", colour, depth, s)
				}
			}
		}
	}
	for i, f := range smallFiles() {
		b := f.bytes()
		if i%3 == 0 {
			b = bytesOf(broken(f.chunks(), probe.Noise(uint32(i), 10))...)
		}
		for _, n := range []int{len(b), len(b) - 1, len(b) - 12, 30, 8, 0} {
			if s := probe.Kept(b[:n], func(b []byte) ([]byte, api.Errno) {
				m, e := png.Decode(b, plenty)
				return probe.Narrow(m.Pix), e
			}); s != "" {
				t.Errorf("Decode(%s): %s", told(b[:n]), s)
			}
		}
	}
}

// R4: answers share no memory with one another.
func TestAnswersAreNew(t *testing.T) {
	for _, colour := range written() {
		encode := func(m api.Image) ([]byte, api.Errno) { return png.Encode(m, colour, 16) }
		decode := func(b []byte) (api.Image, api.Errno) { return png.Decode(b, plenty) }
		if s := probe.Apart(encode, decode); s != "" {
			t.Error(colour, s)
		}
	}
}

// R5, R6: the same call answers the same, whatever was asked ahead of it and is
// asked beside it.
func TestSameAnswers(t *testing.T) {
	t.Parallel()
	var files [][]byte
	for i, f := range smallFiles() {
		files = append(files, f.bytes(), bytesOf(broken(f.chunks(), probe.Noise(uint32(i), 10))...))
	}
	images := []api.Image{probe.Image(1, 3, 2), probe.Image(2, 9, 1), {}, probe.Sampled(2, 2, 15), ramps(20, 20)}
	if s := probe.Steady(3*len(files), func(i int) ([]byte, api.Errno) {
		if i%3 == 0 {
			return png.Encode(images[i%len(images)], i/3%8, 8+i%2*8)
		}
		m, e := png.Decode(files[i/3], 10*(i%3)+1)
		return append(probe.Narrow(m.Pix), byte(m.W), byte(m.H)), e
	}); s != "" {
		t.Error(s)
	}
}

// R1: no call panics or goes on for ever, whatever it is given.
func TestNoPanic(t *testing.T) {
	for _, m := range []api.Image{{}, probe.Image(1, 1, 1), probe.Sampled(1, 1, 3), probe.Sampled(1<<62, 4, 0), probe.Sampled(-1, -1, 4), probe.Sampled(math.MinInt, 1, 4)} {
		for _, n := range append(probe.Far(), 0, 3, 6, 8, 16) {
			_, _ = png.Encode(m, n, 8)
			_, _ = png.Encode(m, 6, n)
		}
	}
	for _, most := range append(probe.Far(), -1, 0, 1, 5) {
		for _, f := range smallFiles()[:40] {
			_, _ = png.Decode(f.bytes(), most)
		}
	}
	good := smallFiles()
	for seed := range uint32(3000) {
		cs := good[int(seed)%len(good)].chunks()
		noise := probe.Noise(seed, 300)
		i := int(noise[0]) % len(cs)
		cs[i].Data = noise[1 : 1+int(noise[1])]
		_, _ = png.Decode(bytesOf(cs...), math.MaxInt)
		_, _ = png.Decode(append(bytesOf(cs[:i]...), noise...), math.MaxInt)
	}
}
