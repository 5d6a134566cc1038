package lzw_test

import (
	"bytes"
	"compress/lzw"
	"io"
	"math"
	"slices"
	"strings"
	"testing"

	"darkroom/api"
	own "darkroom/lzw"
	"darkroom/probe"
)

// packed answers b packed, which it asks to be read as b, to begin with clear,
// and to end with end and noughts in the byte that end stands in.
func packed(t *testing.T, k kind, b []byte) []byte {
	t.Helper()
	x, e := k.pack(b)
	if e != api.OK {
		t.Fatalf("%s: %s is packed as %s, %d", k.name, probe.Short(b), probe.Short(x), e)
	}
	want(t, k, x, len(b), b)
	y, taken, e := plain(k, x, len(b))
	if e != api.OK || !bytes.Equal(y, b) {
		t.Fatalf("%s: %s is packed as %s, thus %s, %d", k.name, probe.Short(b), probe.Short(x), probe.Short(y), e)
	}
	digits := k.text(x)
	if !strings.HasPrefix(digits, k.digits(k.clear, k.first)) {
		t.Fatalf("%s: %s is packed as %s, without clear ahead", k.name, probe.Short(b), probe.Short(x))
	}
	if rest := digits[taken:]; len(rest) >= 8 || strings.Contains(rest, "1") {
		t.Fatalf("%s: %s is packed as %s, with %q behind end", k.name, probe.Short(b), probe.Short(x), rest)
	}
	return x
}

// wantPacked asks it of all kinds.
func wantPacked(t *testing.T, b []byte) {
	t.Helper()
	for _, k := range kinds() {
		packed(t, k, k.fit(b))
	}
}

// P6.2: sizes out of range, whatever the bytes are.
func TestGifPackSizesOutOfRange(t *testing.T) {
	for _, size := range wrongSizes {
		for _, b := range [][]byte{nil, {}, {0}, {255}, make([]byte, 5000)} {
			if x, e := own.GifPack(b, size); e != api.ErrRange || len(x) != 0 {
				t.Errorf("GifPack(%s, %d) = %s, %d", probe.Short(b), size, probe.Short(x), e)
			}
		}
	}
}

// P6.2: bytes just below 2^size and just that, and all above, at each place.
func TestGifPackBytesOutOfRange(t *testing.T) {
	for size := 2; size <= 8; size++ {
		k := gif(size)
		for x := range 256 {
			for n := 1; n <= 4; n++ {
				for at := range n {
					b := bytes.Repeat([]byte{1}, n)
					b[at] = byte(x)
					if x < k.clear {
						packed(t, k, b)
					} else if y, e := own.GifPack(b, size); e != api.ErrRange || len(y) != 0 {
						t.Fatalf("GifPack(%x, %d) = %x, %d", b, size, y, e)
					}
				}
			}
		}
		if k.clear == 256 {
			continue
		}
		long := k.fit(probe.Noise(1, 20000))
		for _, at := range []int{0, 1, 5000, len(long) - 1} {
			b := bytes.Clone(long)
			b[at] = byte(k.clear)
			if y, e := own.GifPack(b, size); e != api.ErrRange || len(y) != 0 {
				t.Fatalf("GifPack of %d at %d with size %d: %s, %d", k.clear, at, size, probe.Short(y), e)
			}
		}
	}
}

// P6.2, P6.4: no bytes at all, and one and two of each kind.
func TestPackNoneAndFew(t *testing.T) {
	for _, k := range kinds() {
		packed(t, k, nil)
		packed(t, k, []byte{})
		for x := range k.clear {
			packed(t, k, []byte{byte(x)})
			packed(t, k, []byte{byte(x), byte(x)})
			packed(t, k, []byte{byte(x), byte(k.clear - 1 - x)})
		}
	}
}

// shortTexts are all of so many letters and at most so long.
func shortTexts(letters, most int) [][]byte {
	all := [][]byte{nil}
	for from := 0; len(all[from]) < most; from++ {
		for x := range letters {
			all = append(all, append(bytes.Clone(all[from]), byte(x)))
		}
	}
	return all
}

// P6.2, P6.4: all short texts of two and of four letters.
func TestPackShortTexts(t *testing.T) {
	t.Parallel()
	for _, b := range slices.Concat(shortTexts(2, 12), shortTexts(4, 5)) {
		packed(t, gif(2), b)
		packed(t, gif(3), b)
		packed(t, tiff, b)
	}
}

// P6.2, P6.4: texts with strings that come again and texts that hold none, of
// all kinds; another program reads GIF's too.
func TestPackTexts(t *testing.T) {
	t.Parallel()
	for _, x := range probe.Texts() {
		wantPacked(t, x.B)
		for size := 2; size <= 8; size++ {
			b := gif(size).fit(x.B)
			p := packed(t, gif(size), b)
			y, err := io.ReadAll(lzw.NewReader(bytes.NewReader(p), lzw.LSB, size))
			if err != nil || !bytes.Equal(y, b) {
				t.Fatalf("%s, size %d: the library reads %s, %v", x.Name, size, probe.Short(y), err)
			}
		}
	}
}

// P6.2, P6.4: bytes alike, of many lengths: each code is then the one that the
// table would get next.
func TestPackAlike(t *testing.T) {
	t.Parallel()
	for n := range 700 {
		wantPacked(t, probe.Alike(3, n))
	}
	for _, n := range []int{5000, 65536, 1 << 20} {
		wantPacked(t, probe.Alike(255, n))
	}
}

// P6.2, P6.4: texts of each length, so that end stands behind each count of
// codes at which the width grows and at which the table is full.
func TestPackEachLength(t *testing.T) {
	t.Parallel()
	none := probe.NoneAgain(9000)
	for _, k := range kinds() {
		for n := range 600 {
			packed(t, k, k.fit(probe.Noise(3, n)))
		}
		for n := 1000; n < 9000; n += 197 {
			packed(t, k, k.fit(probe.Noise(4, n)))
		}
	}
	// Each byte is a code of its own there, as no two come again.
	for _, k := range []kind{tiff, gif(8)} {
		for _, n := range []int{254, 510, 766, 1022, 1790, 2046, 3836, 4094, 2 * 3836, 2*3836 + 4} {
			for d := -8; d <= 8; d++ {
				packed(t, k, none[:n+d])
			}
		}
	}
	for size := 2; size < 8; size++ {
		k := gif(size)
		for n := 9000; n < 40000; n += 2011 {
			packed(t, k, k.fit(probe.Noise(5, n)))
		}
	}
}

// P6.2, P6.4: texts that fill the table many times.
func TestPackLongTexts(t *testing.T) {
	t.Parallel()
	wantPacked(t, probe.Noise(6, 100000))
	wantPacked(t, probe.Few(7, 100000, 3))
	wantPacked(t, probe.NoneAgain(65536))
	wantPacked(t, []byte(strings.Repeat("a line of a text that is told again, ", 4000)))
	stripes := make([]byte, 100000)
	for i := range stripes {
		stripes[i] = byte(i / 700)
	}
	wantPacked(t, stripes)
	wantPacked(t, slices.Concat(stripes, probe.Noise(8, 20000), stripes, probe.Few(9, 30000, 200), stripes))
}

// P6.2, P6.4: texts put together of pieces of all kinds.
func TestPackPieces(t *testing.T) {
	t.Parallel()
	for i := range uint32(60) {
		wantPacked(t, probe.Pieces(i, 20))
	}
}

// P6.4: what is packed already is packed and unpacked again.
func TestPackPacked(t *testing.T) {
	t.Parallel()
	for _, x := range probe.Texts() {
		b := x.B
		for range 3 {
			b = packed(t, tiff, b)
			b = packed(t, gif(8), b)
			b = wantRuns(t, b)
		}
	}
}

// P6.1 and P6.2: no kind reads what another packs; thus none is taken for
// another.
func TestKindsAreApart(t *testing.T) {
	b := probe.Few(1, 3000, 4)
	for _, k := range kinds() {
		p := packed(t, k, b)
		for _, other := range kinds() {
			if other.name == k.name {
				continue
			}
			if x, e := other.unpack(p, math.MaxInt); e == api.OK && bytes.Equal(x, b) {
				t.Errorf("%s reads what %s packs", other.name, k.name)
			}
			wantAsTold(t, other, p, plenty)
		}
	}
}
