package bits_test

import (
	"math"
	"testing"

	"darkroom/api"
	"darkroom/bits"
	"darkroom/probe"
)

func TestTakeExamples(t *testing.T) {
	h := bits.NewReader([]byte{0xA5, 0xC3}, true)
	wantTake(t, h, 3, 5, api.OK)
	wantTake(t, h, 6, 11, api.OK)
	wantPlace(t, h, 9, 7)
	l := bits.NewReader([]byte{0xA5, 0xC3}, false)
	wantTake(t, l, 3, 5, api.OK)
	wantTake(t, l, 6, 52, api.OK)
	wantPlace(t, l, 9, 7)
}

// Every width from every place, against the bits told one by one.
func TestTakeEveryWidthAtEveryPlace(t *testing.T) {
	data := probe.Noise(0, 9)
	for name, high := range orders {
		all := bitsOf(data, high)
		for from := 0; from <= 16; from++ {
			for n := 0; n <= 32; n++ {
				r := bits.NewReader(data, high)
				r.Take(from)
				want := numberOf(all[from:from+n], high)
				if v, e := r.Take(n); v != want || e != api.OK {
					t.Fatalf("%s, from %d: Take(%d) = %#x, %d; want %#x", name, from, n, v, e, want)
				}
				wantPlace(t, r, from+n, 72-from-n)
			}
		}
	}
}

func TestTakeWidthsThatMayNotBe(t *testing.T) {
	for _, high := range orders {
		r := bits.NewReader(probe.Noise(0, 20), high)
		r.Take(5)
		for _, n := range []int{-1, 33, 64, math.MinInt, math.MaxInt} {
			wantTake(t, r, n, 0, api.ErrRange)
		}
		wantPlace(t, r, 5, 155)
	}
}

// ErrRange stands ahead of ErrEnd: with nothing left it is still ErrRange.
func TestTakeRangeAheadOfEnd(t *testing.T) {
	r := bits.NewReader(nil, true)
	wantTake(t, r, 33, 0, api.ErrRange)
	wantTake(t, r, -1, 0, api.ErrRange)
	wantTake(t, r, 1, 0, api.ErrEnd)
	wantTake(t, r, 0, 0, api.OK)
}

func TestTakeTheLastBits(t *testing.T) {
	for _, high := range orders {
		r := bits.NewReader([]byte{0xFF, 0xFF}, high)
		wantTake(t, r, 9, 511, api.OK)
		wantTake(t, r, 8, 0, api.ErrEnd)
		wantTake(t, r, 32, 0, api.ErrEnd)
		wantPlace(t, r, 9, 7)
		wantTake(t, r, 7, 127, api.OK)
		wantPlace(t, r, 16, 0)
		wantTake(t, r, 1, 0, api.ErrEnd)
		wantTake(t, r, 0, 0, api.OK)
		wantPlace(t, r, 16, 0)
	}
}

func TestTakeAll32(t *testing.T) {
	data := []byte{0x81, 0x02, 0x03, 0xC4}
	wantTake(t, bits.NewReader(data, true), 32, 0x810203C4, api.OK)
	wantTake(t, bits.NewReader(data, false), 32, 0xC4030281, api.OK)
}

func TestBytes(t *testing.T) {
	for _, high := range orders {
		r := bits.NewReader([]byte{1, 2, 3, 4, 5}, high)
		wantReaderBytes(t, r, 2, []byte{1, 2}, api.OK)
		wantPlace(t, r, 16, 24)
		r.Take(1)
		wantReaderBytes(t, r, 1, []byte{4}, api.OK)
		wantPlace(t, r, 32, 8)
		wantReaderBytes(t, r, 0, nil, api.OK)
		wantPlace(t, r, 32, 8)
		r.Take(3)
		wantReaderBytes(t, r, 0, nil, api.OK)
		wantPlace(t, r, 40, 0)
		wantReaderBytes(t, r, 0, nil, api.OK)
		wantReaderBytes(t, r, 1, nil, api.ErrEnd)
	}
}

// A byte of which a bit was taken doesn't count as one that is left.
func TestBytesBehindTheEnd(t *testing.T) {
	r := bits.NewReader([]byte{1, 2, 0x80}, true)
	wantReaderBytes(t, r, 4, nil, api.ErrEnd)
	r.Take(1)
	for _, n := range []int{3, 4, math.MaxInt} {
		wantReaderBytes(t, r, n, nil, api.ErrEnd)
		wantPlace(t, r, 1, 23)
	}
	wantTake(t, r, 15, 258, api.OK)
	r.Take(1)
	wantReaderBytes(t, r, 1, nil, api.ErrEnd)
	wantPlace(t, r, 17, 7)
}

func TestBytesBelowNought(t *testing.T) {
	r := bits.NewReader([]byte{1, 2}, true)
	r.Take(3)
	wantReaderBytes(t, r, -1, nil, api.ErrRange)
	wantReaderBytes(t, r, math.MinInt, nil, api.ErrRange)
	wantPlace(t, r, 3, 13)
	wantReaderBytes(t, bits.NewReader(nil, false), -1, nil, api.ErrRange)
}

func TestReaderAlign(t *testing.T) {
	for _, high := range orders {
		r := bits.NewReader([]byte{1, 2, 3}, high)
		r.Align()
		wantPlace(t, r, 0, 24)
		for _, n := range []int{1, 7} {
			r.Take(n)
			at := r.Place()
			r.Align()
			wantPlace(t, r, (at+7)/8*8, 24-(at+7)/8*8)
			r.Align()
			wantPlace(t, r, (at+7)/8*8, 24-(at+7)/8*8)
		}
		r.Take(5)
		r.Align()
		wantPlace(t, r, 24, 0)
		r.Align()
		wantPlace(t, r, 24, 0)
	}
}

func TestReaderWithNothing(t *testing.T) {
	for _, data := range [][]byte{nil, {}} {
		r := bits.NewReader(data, true)
		wantPlace(t, r, 0, 0)
		r.Align()
		wantReaderBytes(t, r, 0, nil, api.OK)
		wantReaderBytes(t, r, 1, nil, api.ErrEnd)
		wantPlace(t, r, 0, 0)
	}
}

// ErrNil stands ahead of every other error.
func TestNilReader(t *testing.T) {
	var r *bits.Reader
	for _, n := range []int{-1, 0, 1, 32, 33} {
		wantTake(t, r, n, 0, api.ErrNil)
		wantReaderBytes(t, r, n, nil, api.ErrNil)
	}
	r.Align()
	wantPlace(t, r, 0, 0)
}

func TestReaderKeepsNothingOfWhatItIsHanded(t *testing.T) {
	data, all := probe.Roomy([]byte{1, 2, 3, 4})
	r := bits.NewReader(data, true)
	for i := range all {
		if i < 8 || i >= 12 {
			if all[i] != 0xEE {
				t.Fatal("what stands around the list was changed:", all)
			}
		}
	}
	probe.Spoil(all)
	wantTake(t, r, 8, 1, api.OK)
	wantReaderBytes(t, r, 3, []byte{2, 3, 4}, api.OK)
}

func TestReaderLeavesWhatItIsHanded(t *testing.T) {
	data, all := probe.Roomy([]byte{1, 2, 3, 4})
	before := string(all)
	r := bits.NewReader(data, false)
	r.Take(9)
	b, _ := r.Bytes(1)
	probe.Spoil(b)
	r.Align()
	r.Take(8)
	if string(all) != before {
		t.Error("changed:", all)
	}
}

// What is done to an answer, its spare room included, shows neither in the
// reader nor in an earlier answer.
func TestReaderAnswersNewMemory(t *testing.T) {
	r := bits.NewReader([]byte{1, 2, 3, 4, 5, 6}, true)
	a, _ := r.Bytes(2)
	probe.Spoil(a)
	b, _ := r.Bytes(2)
	was := string(a)
	probe.Spoil(b)
	if string(a) != was {
		t.Error("two answers share memory")
	}
	wantReaderBytes(t, r, 2, []byte{5, 6}, api.OK)
}

// Two readers of one list go on each by itself.
func TestReadersApart(t *testing.T) {
	data := []byte{0xA5, 0xC3}
	h, l := bits.NewReader(data, true), bits.NewReader(data, false)
	h.Take(4)
	wantPlace(t, l, 0, 16)
	wantTake(t, l, 4, 5, api.OK)
	wantTake(t, h, 4, 5, api.OK)
	wantTake(t, h, 4, 12, api.OK)
	wantTake(t, l, 4, 10, api.OK)
}
