package lzw_test

import (
	"bytes"
	"slices"
	"testing"

	"darkroom/api"
	"darkroom/lzw"
	"darkroom/probe"
)

// A call is one of the six functions, with all arguments but bytes.
type call struct {
	name string
	do   func(b []byte) ([]byte, api.Errno)
}

func calls() []call {
	all := []call{
		{"TiffPack", func(b []byte) ([]byte, api.Errno) { return lzw.TiffPack(b), api.OK }},
		{"Pack", func(b []byte) ([]byte, api.Errno) { return lzw.Pack(b), api.OK }},
	}
	for size := 1; size <= 9; size++ {
		all = append(all, call{"GifPack", func(b []byte) ([]byte, api.Errno) { return lzw.GifPack(b, size) }})
		for _, most := range []int{plenty, 7, 0, -1} {
			all = append(all, call{"GifUnpack", func(b []byte) ([]byte, api.Errno) { return lzw.GifUnpack(b, size, most) }})
		}
	}
	for _, most := range []int{plenty, 7, 0, -1} {
		all = append(all,
			call{"TiffUnpack", func(b []byte) ([]byte, api.Errno) { return lzw.TiffUnpack(b, most) }},
			call{"Unpack", func(b []byte) ([]byte, api.Errno) { return lzw.Unpack(b, most) }})
	}
	return all
}

// handedIn are bytes of all kinds, packed and not, good and broken.
func handedIn(t *testing.T) [][]byte {
	t.Helper()
	all := [][]byte{nil, {}, {0x44, 1}, {0x34}, {0x81}, {1, 5}, {128, 128}}
	for _, x := range probe.Texts() {
		b := gif(2).fit(x.B)
		all = append(all, x.B, b, packed(t, gif(2), b), packed(t, gif(8), x.B), packed(t, tiff, x.B), wantRuns(t, x.B))
	}
	for _, b := range slices.Clone(all) {
		all = append(all, b[:len(b)*3/4])
	}
	for i := range uint32(20) {
		all = append(all, probe.Noise(i, 60))
	}
	return all
}

// R3: nil and an empty list are one.
func TestNilIsEmpty(t *testing.T) {
	for _, c := range calls() {
		x, e := c.do(nil)
		for _, b := range [][]byte{{}, make([]byte, 0, 50)} {
			if y, f := c.do(b); f != e || !bytes.Equal(x, y) {
				t.Errorf("%s: %x, %d and %x, %d", c.name, x, e, y, f)
			}
		}
	}
}

// R2: beside an error stands nothing.
func TestNothingBesideErrors(t *testing.T) {
	all := handedIn(t)
	for _, c := range calls() {
		for _, b := range all {
			if x, e := c.do(b); e != api.OK && len(x) != 0 {
				t.Fatalf("%s(%s) = %s, %d", c.name, probe.Short(b), probe.Short(x), e)
			}
		}
	}
}

// R4: what is handed in stays, spare room included, and isn't kept; what stands
// behind it isn't read; what is answered is new memory.
func TestKeepsAndSharesNothing(t *testing.T) {
	t.Parallel()
	all := handedIn(t)
	for _, c := range calls() {
		for _, b := range all {
			if s := probe.Kept(b, c.do); s != "" {
				t.Fatalf("%s(%s): %s", c.name, probe.Short(b), s)
			}
		}
	}
}

// R4: the rest of a stream, in spare room behind the list, isn't read.
func TestSpareRoomIsNotRead(t *testing.T) {
	for _, k := range kinds() {
		b := packed(t, k, k.fit(probe.Texts()[11].B[:300]))
		for n := range b {
			wantFault(t, k, b[:n], plenty, api.ErrEnd)
		}
	}
	b := []byte{3, 1, 2, 3, 4, 0xFF, 9}
	for _, n := range []int{1, 2, 3, 4, 6} {
		wantUnpack(t, b[:n], plenty, nil, api.ErrEnd)
	}
	text := []byte("aaaaaabcaaaaaabbbbb")
	for n := range text {
		wantRuns(t, text[:n])
		packed(t, tiff, text[:n])
		packed(t, gif(8), text[:n])
	}
}

// R5 and R6: the same call answers the same, whatever was asked ahead and is
// asked beside.
func TestSameAnswers(t *testing.T) {
	t.Parallel()
	all := handedIn(t)
	for _, c := range calls() {
		if s := probe.Steady(len(all), func(i int) ([]byte, api.Errno) { return c.do(all[i]) }); s != "" {
			t.Errorf("%s: %s", c.name, s)
		}
	}
}
