package deflate_test

import (
	"bytes"
	"compress/flate"
	"fmt"
	"math"
	"slices"
	"strings"
	"testing"

	"darkroom/api"
	"darkroom/deflate"
	"darkroom/inflate"
	"darkroom/probe"
)

func TestRawExamples(t *testing.T) {
	t.Parallel()
	x := raw(t, nil, 0)
	if y, _, e := inflate.Raw(x, 0); len(y) != 0 || e != api.OK {
		t.Error(y, e)
	}
	if x := raw(t, make([]byte, 1000), 2); len(x) > 47 {
		t.Error("a thousand noughts take", len(x))
	}
}

// P5.1: levels below 0 and above 2, whatever b is.
func TestLevelsOutOfRange(t *testing.T) {
	t.Parallel()
	for _, level := range []int{-1, -2, 3, 4, 9, 256, 258, math.MinInt, math.MaxInt, 1 << 32, 1<<32 + 1, -1 << 32} {
		for _, b := range [][]byte{nil, {}, {1}, []byte("abcabcabc"), make([]byte, 70000)} {
			if x, e := deflate.Raw(b, level); len(x) != 0 || e != api.ErrRange {
				t.Errorf("Raw(%s, %d) = %s, %d", probe.Short(b), level, probe.Short(x), e)
			}
			if x, e := deflate.Zlib(b, level); len(x) != 0 || e != api.ErrRange {
				t.Errorf("Zlib(%s, %d) = %s, %d", probe.Short(b), level, probe.Short(x), e)
			}
		}
	}
}

// P5.1, P5.2: texts of all kinds, at each level.
func TestRawOfTexts(t *testing.T) {
	t.Parallel()
	for _, x := range slices.Concat(probe.Texts(), longTexts()) {
		t.Run(x.Name, func(t *testing.T) { wantRaw(t, x.B) })
	}
}

// P5.1: no bytes at all, and a byte of each kind.
func TestRawOfNoneAndOne(t *testing.T) {
	t.Parallel()
	wantRaw(t, nil)
	wantRaw(t, []byte{})
	for x := range 256 {
		wantRaw(t, []byte{byte(x)})
		wantRaw(t, []byte{byte(x), byte(x)})
		wantRaw(t, []byte{byte(x), byte(x + 1), byte(255 - x)})
	}
}

// P5.1: each short text of two letters, of which many hold strings again.
func TestRawOfAllShortTexts(t *testing.T) {
	t.Parallel()
	for n := range 11 {
		for v := range 1 << n {
			wantRaw(t, []byte(strings.NewReplacer("0", "a", "1", "b").Replace(fmt.Sprintf("%0*b", n, v))[:n]))
		}
	}
}

// P5.1: with level 0 there are blocks of kind 0 alone, and as few as can be
// would do: what they are is bound by the stream's length.
func TestStored(t *testing.T) {
	t.Parallel()
	for _, n := range []int{0, 1, 2, 65534, 65535, 65536, 2*65535 - 1, 2 * 65535, 2*65535 + 1, 200000} {
		for _, b := range [][]byte{probe.Alike('a', n), probe.Noise(1, n)} {
			x := raw(t, b, 0)
			if kinds := walked(t, x).kinds; slices.Max(kinds) != 0 || len(x) != n+5*len(kinds) {
				t.Errorf("%d bytes: %d, of the kinds %v", n, len(x), kinds)
			}
		}
	}
}

// P5.1, P5.2: around the most bytes of a stored block, and of two.
func TestRawAroundStoredBlocks(t *testing.T) {
	t.Parallel()
	for _, border := range []int{65535, 2 * 65535} {
		for d := -2; d <= 2; d++ {
			n := border + d
			wantRaw(t, probe.Noise(uint32(n), n))
			wantRaw(t, probe.Few(uint32(n), n, 30))
			wantRaw(t, bytes.Repeat([]byte("0123456789"), n/10+1)[:n])
		}
	}
}

// P5.1: strings that come again from far and near, up to just as far as a match
// may go, and farther; of lengths up to the greatest of a match, and more.
func TestStringsThatComeAgain(t *testing.T) {
	t.Parallel()
	lengths := []int{2, 3, 4, 10, 11, 257, 258, 259, 260, 600}
	for _, distance := range []int{1, 2, 3, 4, 5, 255, 256, 257, 258, 259, 16385, 32767, 32768, 32769, 32770, 65536} {
		for _, n := range lengths {
			wantRaw(t, again(uint32(distance), probe.Noise(77, n), distance))
		}
	}
}

// P5.1: a match of each length.
func TestEachLength(t *testing.T) {
	t.Parallel()
	for n := 1; n <= 520; n++ {
		wantRaw(t, again(uint32(n), probe.Noise(5, n), n+2))
		wantRaw(t, append(probe.Alike('r', n), 's'))
	}
}

// P5.1: matches of all distances at which a symbol begins or ends.
func TestEachDistance(t *testing.T) {
	t.Parallel()
	for least, more := 1, 0; least < 40000; least, more = least+2<<more, more+1 {
		for _, d := range []int{least, least + 1, least + 1<<more - 1, least + 1<<more, least + 1<<more + 1, least + 2<<more - 1} {
			wantRaw(t, again(uint32(d), probe.Noise(3, 30), d))
			wantRaw(t, again(uint32(d), probe.Noise(4, 3), d))
		}
	}
}

// P5.1: strings that come again over the border of what one stored block may
// hold, each of which may be packed otherwise.
func TestStringsOverBorders(t *testing.T) {
	t.Parallel()
	s := probe.Noise(1, 300)
	for _, at := range []int{65535 - 301, 65535 - 300, 65535 - 299, 65535 - 3, 65535 - 1, 65535, 65536} {
		for _, between := range [][]byte{probe.Noise(2, at), probe.Alike(5, at), probe.Few(3, at, 4)} {
			b := slices.Concat(s, between)[:at]
			wantRaw(t, slices.Concat(b, s, probe.Noise(9, 40)))
			b = slices.Concat(between[:at-400], s, between)[:at]
			wantRaw(t, slices.Concat(b, s, s[:100]))
		}
	}
}

// P5.1: bytes, and strings between them, that come so unlike one another that
// the best code would be deeper than a block's may be.
func TestRawOfSkewedTexts(t *testing.T) {
	t.Parallel()
	for n := 1; n <= 17; n++ {
		wantRaw(t, skewed(rising(n)))
	}
	for n := 1; n <= 13; n++ {
		doubled := make([]int, n)
		for i := range doubled {
			doubled[i] = 1 << i
		}
		wantRaw(t, skewed(doubled))
		wantRaw(t, skewed(slices.Repeat(doubled[:min(n, 7)], 30)))
	}
}

// P5.1: codes that have gaps of all lengths between their symbols, and symbols
// alike in a row of all lengths.
func TestGapsBetweenSymbols(t *testing.T) {
	t.Parallel()
	for gap := 1; gap < 255; gap++ {
		letters := []byte{0, byte(gap), byte(min(gap+3, 255)), byte(min(2*gap+5, 255))}
		b := probe.Few(uint32(gap), 400, len(letters))
		for i := range b {
			b[i] = letters[b[i]]
		}
		wantRaw(t, b)
		wantRaw(t, probe.Few(uint32(gap), 400, gap))
		wantRaw(t, append(probe.Few(uint32(gap), 900, gap), probe.Each()...))
	}
}

// P5.1: texts put together of pieces of all kinds.
func TestRawOfPieces(t *testing.T) {
	t.Parallel()
	for i := range uint32(400) {
		wantRaw(t, probe.Pieces(i, 10))
	}
}

// P5.1: what is packed already is read back as it was packed.
func TestRawOfStreams(t *testing.T) {
	t.Parallel()
	for _, x := range probe.Texts() {
		for level := range 3 {
			b := raw(t, x.B, level)
			wantRaw(t, b)
		}
	}
	var w bytes.Buffer
	z, err := flate.NewWriter(&w, 9)
	if err != nil {
		t.Fatal(err)
	}
	z.Write(probe.NoneAgain(65536))
	z.Close()
	wantRaw(t, w.Bytes())
}
