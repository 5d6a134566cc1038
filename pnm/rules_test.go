package pnm_test

import (
	"fmt"
	"math"
	"testing"

	"darkroom/api"
	"darkroom/pnm"
	"darkroom/probe"
)

// R3: nil and an empty list are one.
func TestNilIsEmpty(t *testing.T) {
	for _, b := range [][]byte{nil, {}, make([]byte, 0, 50)} {
		if m, e := pnm.Decode(b, plenty); probe.Other(m, e, api.Image{}, api.ErrMalformed) != "" {
			t.Error(m, e)
		}
	}
	for _, pix := range [][]uint16{nil, {}, make([]uint16, 0, 50)} {
		wantNoFile(t, api.Image{W: 1, H: 1, Pix: pix}, 1, 1, api.ErrImage)
		wantNoFile(t, api.Image{Pix: pix}, 1, 1, api.ErrImage)
	}
}

// R2, R4: what is handed in stays, spare room included, and isn't read there nor
// kept; what is answered is new memory, spare room included.
func TestKeepsAndSharesNothing(t *testing.T) {
	for _, kind := range kinds() {
		for _, top := range []int{1, 255, 256, greatest} {
			m := probe.Image(1, 3, 2)
			for _, n := range []int{24, 23, 0} {
				if s := probe.Kept(m.Pix[:n], func(pix []uint16) ([]uint16, api.Errno) {
					b, e := pnm.Encode(api.Image{W: 3, H: 2, Pix: pix}, kind, top)
					return probe.Wide(b), e
				}); s != "" {
					t.Errorf("Encode, kind %d, top %d: %s", kind, top, s)
				}
			}
			file := plainEncode(m, kind, top)
			for _, n := range []int{len(file), len(file) - 1, len(file) - 2, 5, 0} {
				if s := probe.Kept(file[:n], func(b []byte) ([]byte, api.Errno) {
					m, e := pnm.Decode(b, 6)
					return probe.Narrow(m.Pix), e
				}); s != "" {
					t.Errorf("Decode(%q): %s", file[:n], s)
				}
			}
		}
	}
}

// R4: answers share no memory with one another.
func TestAnswersAreNew(t *testing.T) {
	for _, kind := range kinds() {
		encode := func(m api.Image) ([]byte, api.Errno) { return pnm.Encode(m, kind, 300) }
		decode := func(b []byte) (api.Image, api.Errno) { return pnm.Decode(b, plenty) }
		if s := probe.Apart(encode, decode); s != "" {
			t.Error(kind, s)
		}
	}
}

// R5, R6: the same call answers the same, whatever was asked ahead of it and is
// asked beside it.
func TestSameAnswers(t *testing.T) {
	t.Parallel()
	files := smallFiles()
	for i := range len(files) {
		files = append(files, changed(files[i], uint32(i)))
	}
	images := []api.Image{probe.Image(1, 3, 2), probe.Image(2, 9, 1), {}, probe.Sampled(2, 2, 15), probe.Image(3, 1, 20)}
	if s := probe.Steady(3*len(files), func(i int) ([]byte, api.Errno) {
		if i%3 == 0 {
			return pnm.Encode(images[i%len(images)], i/3%8, i*i*7)
		}
		m, e := pnm.Decode([]byte(files[i/3]), 4*(i%3)+1)
		return append(probe.Narrow(m.Pix), byte(m.W), byte(m.H)), e
	}); s != "" {
		t.Error(s)
	}
}

// R1: no call panics or goes on for ever, whatever it is given.
func TestNoPanic(t *testing.T) {
	numbers := append(probe.Far(), -1, 0, 1, 5, 6, 7, greatest)
	images := []api.Image{{}, probe.Image(1, 1, 1), probe.Image(1, 3, 2), probe.Sampled(1, 1, 3), probe.Sampled(1<<62, 4, 0), probe.Sampled(-1, -1, 4)}
	for _, a := range numbers {
		for _, b := range numbers {
			for _, m := range images {
				_, _ = pnm.Encode(m, a, b)
			}
		}
		for _, file := range smallFiles() {
			_, _ = pnm.Decode([]byte(file), a)
		}
	}
	for seed := range uint32(300) {
		b := probe.Noise(seed, 500)
		copy(b, fmt.Sprintf("P%d %d %d %d", seed%9, b[100]%50, b[101]%50, b[102]))
		_, _ = pnm.Decode(b, math.MaxInt)
	}
}
