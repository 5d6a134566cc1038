package bits_test

import (
	"bytes"
	"math"
	"testing"

	"darkroom/api"
	"darkroom/bits"
	"darkroom/probe"
)

func TestPutExample(t *testing.T) {
	w := bits.NewWriter(true)
	wantPut(t, w, 5, 3, api.OK)
	wantPut(t, w, 1, 2, api.OK)
	wantWritten(t, w, 5, []byte{0xA8})
}

func TestPutInBothOrders(t *testing.T) {
	h, l := bits.NewWriter(true), bits.NewWriter(false)
	for _, w := range []*bits.Writer{h, l} {
		wantPut(t, w, 5, 3, api.OK)
		wantPut(t, w, 0x2C, 6, api.OK)
		wantPut(t, w, 0x01020381, 32, api.OK)
	}
	wantWritten(t, h, 41, []byte{0xB6, 0x00, 0x81, 0x01, 0xC0, 0x80})
	wantWritten(t, l, 41, []byte{0x65, 0x03, 0x07, 0x04, 0x02, 0x00})
}

// Every width from every place, against the bits told one by one.
func TestPutEveryWidthAtEveryPlace(t *testing.T) {
	for name, high := range orders {
		for from := 0; from <= 9; from++ {
			for n := 0; n <= 32; n++ {
				const v = 0x9A5C71E3
				w := bits.NewWriter(high)
				w.Put(0, from)
				wantPut(t, w, v, n, api.OK)
				got := bitsOf(w.Bytes(), high)
				if w.Len() != from+n || len(got) != (from+n+7)/8*8 {
					t.Fatalf("%s, from %d, %d bits: Len %d, %d bits", name, from, n, w.Len(), len(got))
				}
				if x := numberOf(got[from:from+n], high); uint64(x) != v&(1<<n-1) {
					t.Fatalf("%s, from %d, %d bits: %#x", name, from, n, x)
				}
				for i, x := range got {
					if x != 0 && (i < from || i >= from+n) {
						t.Fatalf("%s, from %d, %d bits: bit %d is set", name, from, n, i)
					}
				}
			}
		}
	}
}

func TestPutOnlyTheLowestBits(t *testing.T) {
	for name, high := range orders {
		w := bits.NewWriter(high)
		wantPut(t, w, math.MaxUint32, 0, api.OK)
		wantWritten(t, w, 0, nil)
		wantPut(t, w, 0xFFFFFFF0, 4, api.OK)
		wantWritten(t, w, 4, []byte{0})
		wantPut(t, w, 0xFFFFFF00, 4, api.OK)
		if w.Bytes()[0] != 0 {
			t.Error(name, "bits beyond the n lowest were written")
		}
	}
}

func TestPutWidthsThatMayNotBe(t *testing.T) {
	for _, high := range orders {
		w := bits.NewWriter(high)
		w.Put(0x1FF, 9)
		before := w.Bytes()
		for _, n := range []int{-1, 33, 64, math.MinInt, math.MaxInt} {
			wantPut(t, w, 3, n, api.ErrRange)
		}
		wantWritten(t, w, 9, before)
	}
}

func TestWriterAlign(t *testing.T) {
	for _, high := range orders {
		w := bits.NewWriter(high)
		w.Align()
		wantWritten(t, w, 0, nil)
		w.Put(0xFF, 8)
		w.Align()
		wantWritten(t, w, 8, []byte{0xFF})
		w.Put(1, 1)
		w.Align()
		first := byte(1)
		if high {
			first = 128
		}
		wantWritten(t, w, 16, []byte{0xFF, first})
		w.Align()
		wantWritten(t, w, 16, []byte{0xFF, first})
		w.Put(0x7F, 7)
		w.Align()
		w.Put(0xAB, 8)
		seven := byte(0x7F)
		if high {
			seven = 0xFE
		}
		wantWritten(t, w, 32, []byte{0xFF, first, seven, 0xAB})
	}
}

func TestNilWriter(t *testing.T) {
	var w *bits.Writer
	for _, n := range []int{-1, 0, 1, 32, 33} {
		wantPut(t, w, 1, n, api.ErrNil)
	}
	w.Align()
	wantWritten(t, w, 0, nil)
}

// Bytes neither ends the writing nor hands out what it goes on with.
func TestWriterAnswersNewMemory(t *testing.T) {
	w := bits.NewWriter(true)
	for i := range 40 {
		w.Put(uint32(i), 8)
		w.Put(1, 1)
		a := w.Bytes()
		was := w.Bytes()
		probe.Spoil(a)
		if !bytes.Equal(w.Bytes(), was) {
			t.Fatal("an answer shares memory with the writer")
		}
		w.Put(0x7F, 7)
		if was[len(was)-1] != 0x80 {
			t.Fatal("an answer changed behind its back")
		}
	}
}

func TestWritersApart(t *testing.T) {
	a, b := bits.NewWriter(true), bits.NewWriter(true)
	a.Put(1, 1)
	wantWritten(t, b, 0, nil)
	b.Put(0, 1)
	wantWritten(t, a, 1, []byte{128})
	wantWritten(t, b, 1, []byte{0})
}

// P1.5: numbers of all widths in all sequence are read as they were written.
func TestWhatIsWrittenIsRead(t *testing.T) {
	data := probe.Noise(0, 4*500)
	for name, high := range orders {
		w := bits.NewWriter(high)
		var ns []int
		var vs []uint32
		for i := range 500 {
			v, _ := bits.Get(data, 4*i, 4, true)
			n := int(v % 33)
			if i%7 == 6 {
				w.Align()
			}
			ns, vs = append(ns, n), append(vs, uint32(uint64(v)&(1<<n-1)))
			wantPut(t, w, v, n, api.OK)
		}
		r := bits.NewReader(w.Bytes(), high)
		for i, n := range ns {
			if i%7 == 6 {
				r.Align()
			}
			if v, e := r.Take(n); v != vs[i] || e != api.OK {
				t.Fatalf("%s, number %d of %d bits: %#x, %d; want %#x", name, i, n, v, e, vs[i])
			}
		}
		if r.Place() != w.Len() || r.Left() >= 8 {
			t.Errorf("%s: Place %d, Left %d; written %d", name, r.Place(), r.Left(), w.Len())
		}
		wantTake(t, r, r.Left(), 0, api.OK)
	}
}
