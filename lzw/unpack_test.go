package lzw_test

import (
	"bytes"
	"compress/lzw"
	"fmt"
	"math"
	"slices"
	"strings"
	"testing"

	"darkroom/api"
	own "darkroom/lzw"
	"darkroom/probe"
)

// wrongSizes are those that no GIF has.
var wrongSizes = []int{0, 1, 9, 10, 12, 16, 256 + 2, -1, -2, -8, 1<<32 + 2, math.MinInt, math.MaxInt}

// P6.1: the document's example, and TIFF's own, whose bits are told one by one.
func TestUnpackExamples(t *testing.T) {
	want(t, gif(2), []byte{0x44, 0x01}, 9, []byte{0})
	want(t, gif(2), gif(2).bytes("001"+"000"+"101", "0"), 1, []byte{0})
	b := tiff.bytes("100000000"+"000000111"+"100000010"+"000001000"+"000001000"+"100000010"+"000000110"+"000000110"+"100000001", "0")
	want(t, tiff, b, 10, []byte{7, 7, 7, 8, 8, 7, 7, 6, 6})
	want(t, tiff, []byte{0x80, 0x01, 0xE0, 0x40, 0x80, 0x44, 0x08, 0x0C, 0x06, 0x80, 0x80}, 9, []byte{7, 7, 7, 8, 8, 7, 7, 6, 6})
}

// P6.1: sizes 1 and 9, and worse ones, go ahead of all faults of the codes.
func TestUnpackSizesOutOfRange(t *testing.T) {
	for _, size := range wrongSizes {
		for _, b := range [][]byte{nil, {}, {0x44, 0x01}, {0x44}, {0x34}, {0xFF, 0xFF, 0xFF}, {0, 0, 0, 0}} {
			for _, most := range []int{9, 0, -1} {
				if x, e := own.GifUnpack(b, size, most); e != api.ErrRange || len(x) != 0 {
					t.Errorf("GifUnpack(%x, %d, %d) = %x, %d", b, size, most, x, e)
				}
			}
		}
	}
}

// P6.1: fewer bits than the first code has, none at all among them.
func TestUnpackNothing(t *testing.T) {
	for _, k := range kinds() {
		for _, most := range []int{9, 0, -1} {
			wantFault(t, k, nil, most, api.ErrEnd)
			wantFault(t, k, []byte{}, most, api.ErrEnd)
			if k.first > 8 {
				wantFault(t, k, []byte{byte(k.clear)}, most, api.ErrEnd)
			}
		}
	}
}

// P6.1: end, with and without clear ahead of it.
func TestUnpackEndAlone(t *testing.T) {
	for _, k := range kinds() {
		for _, most := range []int{0, -1, math.MinInt, 9, math.MaxInt} {
			want(t, k, newStream(k).put(k.end()).packed(), most, nil)
			want(t, k, newStream(k).put(k.clear, k.end()).packed(), most, nil)
			want(t, k, newStream(k).put(k.clear, k.clear, k.clear, k.end()).packed(), most, nil)
		}
	}
}

// P6.1: each single byte, behind clear and without.
func TestUnpackSingleBytes(t *testing.T) {
	for _, k := range kinds() {
		for x := range k.clear {
			want(t, k, newStream(k).put(k.clear, x, k.end()).packed(), 1, []byte{byte(x)})
			want(t, k, newStream(k).put(x, k.end()).packed(), 1, []byte{byte(x)})
			wantFault(t, k, newStream(k).put(x, k.end()).packed(), 0, api.ErrLong)
		}
	}
}

// P6.1: strings of the table, by codes told one by one.
func TestUnpackStrings(t *testing.T) {
	for _, k := range kinds() {
		a := k.end() + 1 // the code of the first string that is met
		for _, x := range []struct {
			codes []int
			out   string
		}{
			{[]int{0, 1, a}, "\x00\x01\x00\x01"},
			{[]int{0, 1, a, a + 1, a + 2}, "\x00\x01\x00\x01\x01\x00\x00\x01\x01"},
			{[]int{0, a}, "\x00\x00\x00"},                    // the code that the table would get next
			{[]int{0, a, a + 1}, "\x00\x00\x00\x00\x00\x00"}, // and once more
			{[]int{3, 2, a, a + 2}, "\x03\x02\x03\x02\x03\x02\x03"},
			{[]int{0, 1, 2, a + 1, a + 3}, "\x00\x01\x02\x01\x02\x01\x02\x01"},
			{[]int{0, 1, k.clear, 2, 3, a}, "\x00\x01\x02\x03\x02\x03"},
			{[]int{0, 1, k.clear, k.clear, 2, a}, "\x00\x01\x02\x02\x02"},
			{[]int{k.clear, 0, 1, k.clear}, "\x00\x01"},
		} {
			s := newStream(k).put(x.codes...).put(k.end())
			if string(s.out) != x.out || s.e != api.OK {
				t.Fatalf("the tests' own table is at fault: %s: %v: %x, %d", k.name, x.codes, s.out, s.e)
			}
			wantStream(t, s)
			wantStream(t, newStream(k).put(k.clear).put(x.codes...).put(k.end()))
			wantStream(t, newStream(k).put(1, 0, 0, 1, k.clear).put(x.codes...).put(k.end()))
		}
	}
}

// P6.1: codes that aren't there: with none ahead all above end, then all above
// the one that the table would get next.
func TestUnpackCodesThatAreNotThere(t *testing.T) {
	for _, k := range kinds() {
		a := k.end() + 1
		for _, ahead := range [][]int{{}, {k.clear}, {0, k.clear}, {0, 1, a, k.clear, k.clear}} {
			for code := a; code < 1<<k.first; code++ {
				b := newStream(k).put(ahead...).put(code, k.end()).packed()
				wantFault(t, k, b, plenty, api.ErrCode)
			}
		}
		for _, x := range []struct {
			codes []int
			next  int
		}{{[]int{0}, a}, {[]int{k.clear, 0}, a}, {[]int{0, a}, a + 1}, {[]int{0, 1, 2, k.clear, 1}, a}, {[]int{0, k.clear, 1, 1}, a + 1}} {
			for code := x.next; code < 1<<newStream(k).put(x.codes...).width; code++ {
				s := newStream(k).put(x.codes...).put(code)
				if (s.e == api.OK) != (code == x.next) {
					t.Fatalf("the tests' own table is at fault: %s: %v, then %d: %d", k.name, x.codes, code, s.e)
				}
				wantStream(t, s.put(k.end()))
			}
		}
	}
}

// widths answers at which code behind clear, counted from 1, codes are wider
// than ahead: a table of clear + 2 codes gets one more at the second code and at
// each behind it.
func (k kind) widths() map[int]int {
	at := map[int]int{}
	for width := k.first + 1; width <= 12; width++ {
		at[1<<(width-1)-k.early-k.clear] = width
	}
	return at
}

// P6.1: the codes by which the width grows, up to 12 and no more. The digits are
// written without a table; end shows where a width isn't the reader's.
func TestUnpackWidths(t *testing.T) {
	t.Parallel()
	if w := tiff.widths(); w[255] != 10 || w[767] != 11 || w[1791] != 12 || len(w) != 3 {
		t.Fatal(w)
	}
	if w := gif(2).widths(); w[4] != 4 || w[12] != 5 || w[2044] != 12 || len(w) != 9 {
		t.Fatal(w)
	}
	for _, k := range kinds() {
		at, full := k.widths(), 4096-k.clear
		var digits strings.Builder
		var out []byte
		for range 2 {
			width := k.first
			for n := 1; n < 5000; n++ {
				width = max(width, at[n])
				if n < 5 || at[n-1]+at[n]+at[n+1] > 0 || n >= full-2 && n <= full+2 {
					want(t, k, k.bytes(digits.String()+k.digits(k.end(), width), "0"), len(out), out)
				}
				x := n * n % 7 % k.clear
				digits.WriteString(k.digits(x, width))
				out = append(out, byte(x))
			}
			digits.WriteString(k.digits(k.clear, 12))
		}
		want(t, k, k.bytes(digits.String()+k.digits(k.end(), k.first), "0"), len(out), out)
	}
}

// P6.1: where the width grows, and where the table is full: the last code that is
// there, the next one that the table would get, and those above it.
func TestUnpackGreatestCodes(t *testing.T) {
	t.Parallel()
	for _, k := range kinds() {
		s := newStream(k).put(0)
		for full := 0; full < 4; {
			next := len(s.strings)
			if next > 4090 || next&(next-1) == 0 || next&(next+1) == 0 || (next+1)&(next+2) == 0 {
				for code := max(next-1, k.end()+1); code <= next+2 && code < 1<<s.width; code++ {
					wantStream(t, s.clone().put(code, 0, k.end()))
				}
			}
			if next == 4096 {
				full++
			}
			s.put(len(s.out) % 3)
		}
	}
}

// P6.1: a table of 4096 codes gets no more, and is used on till clear.
func TestUnpackFullTable(t *testing.T) {
	for _, k := range kinds() {
		s := newStream(k).put(k.clear)
		for n := 0; len(s.strings) < 4096; n++ {
			s.put(n % k.clear)
		}
		for code := 4095; code > 3900; code -= 13 {
			s.put(code, 0, code, 1, code-1)
		}
		for code := range 4096 {
			if code != k.clear && code != k.end() {
				s.put(code)
			}
		}
		if len(s.strings) != 4096 || s.width != 12 || s.e != api.OK {
			t.Fatal("the tests' own table is at fault", len(s.strings), s.width, s.e)
		}
		s.put(k.clear, 1, 0, k.end()+1, k.end()+2)
		wantStream(t, s.put(k.end()))
	}
}

// P6.1: strings that grow with each code: the next one, again and again, till
// the table is full and behind it.
func TestUnpackLongestStrings(t *testing.T) {
	for _, k := range kinds() {
		s := newStream(k).put(3)
		for len(s.strings) < 4096 {
			s.put(len(s.strings))
		}
		s.put(4095, 4095, 2, 4094, 4095)
		wantStream(t, s.put(k.end()))
	}
}

// randomStream puts codes that are there, clear among them, in an order that
// hangs on the seed.
func randomStream(k kind, seed uint32, n int) *stream {
	s := newStream(k)
	dice := probe.Noise(seed, 2*n)
	for i := 0; i < len(dice); i += 2 {
		code := int(dice[i])<<8 | int(dice[i+1])
		known := len(s.strings)
		if s.ahead == "" {
			known = k.clear
		} else if known < 4096 {
			known++
		}
		switch code %= known + 1; code {
		case known:
			if dice[i]%8 == 0 {
				s.put(k.clear)
			}
		case k.end():
		default:
			s.put(code)
		}
	}
	return s
}

// P6.1: streams of codes of all kinds, ended and with a fault behind them.
func TestUnpackRandomStreams(t *testing.T) {
	t.Parallel()
	for _, k := range kinds() {
		for i := range uint32(60) {
			s := randomStream(k, i, 40+int(i)*5)
			c := s.put(k.end()).packed()
			want(t, k, c, len(s.out), s.out)
			for _, most := range []int{len(s.out) - 1, len(s.out) / 2, 0} {
				wantAsTold(t, k, c, most)
			}
		}
		s := randomStream(k, 1000, 6000)
		wantStream(t, s.put(k.end()))
	}
}

// P6.1: what another program packs.
func TestUnpackOfTheLibrary(t *testing.T) {
	t.Parallel()
	for _, x := range probe.Texts() {
		for size := 2; size <= 8; size++ {
			k := gif(size)
			out := k.fit(x.B)
			var w bytes.Buffer
			z := lzw.NewWriter(&w, lzw.LSB, size)
			z.Write(out)
			z.Close()
			b := w.Bytes()
			if len(out) == 0 {
				continue // the library writes no end then
			}
			want(t, k, b, len(out), out)
			wantFault(t, k, b, len(out)-1, api.ErrLong)
			wantFault(t, k, b[:len(b)-1], plenty, api.ErrEnd)
		}
	}
}

// shortStreams are good ones, short enough to be looked at bit by bit.
func shortStreams(k kind) []*stream {
	a := k.end() + 1
	all := []*stream{
		newStream(k).put(k.end()),
		newStream(k).put(k.clear, 1, k.end()),
		newStream(k).put(k.clear, 1, 2, a, a+1, a+1, k.clear, 3, 3, a, a+2, k.end()),
		newStream(k).put(0, a, a+1, a+2, k.clear, k.clear, 2, 1, 0, a, k.end()),
	}
	for i := range uint32(3) {
		all = append(all, randomStream(k, i+7, 25).put(k.end()))
	}
	return all
}

// P6.1: a stream cut off at each place ends too early there; what stands behind
// end isn't looked at, not in its last byte either.
func TestUnpackCutOffAndGoneOn(t *testing.T) {
	for _, k := range kinds() {
		for _, s := range shortStreams(k) {
			digits := s.digits.String()
			b := s.packed()
			for n := range b {
				wantFault(t, k, b[:n], plenty, api.ErrEnd)
			}
			for _, more := range []string{"1", "11111111", "0000000000000", "0101010101010101010101", digits, strings.Repeat("1", 100)} {
				want(t, k, k.bytes(digits+more, "1"), len(s.out), s.out)
				want(t, k, k.bytes(digits+more, "0"), len(s.out), s.out)
			}
		}
	}
}

// P6.1: streams with each bit turned round, each byte another one, lost and
// doubled, with all kinds of most.
func TestUnpackBrokenAsTold(t *testing.T) {
	t.Parallel()
	for _, k := range kinds() {
		for _, s := range shortStreams(k) {
			b := s.packed()
			for _, most := range []int{plenty, len(s.out), len(s.out) - 1, 1, 0, -1} {
				for n := range len(b) + 1 {
					wantAsTold(t, k, b[:n], most)
				}
				for bit := range 8 * len(b) {
					c := bytes.Clone(b)
					c[bit/8] ^= 1 << (bit % 8)
					wantAsTold(t, k, c, most)
				}
			}
			for at := range b {
				for _, x := range []byte{0, 0xFF, 0x55, 0xAA} {
					c := bytes.Clone(b)
					c[at] = x
					wantAsTold(t, k, c, plenty)
				}
				wantAsTold(t, k, slices.Delete(bytes.Clone(b), at, at+1), plenty)
				wantAsTold(t, k, slices.Insert(bytes.Clone(b), at, b[at]), plenty)
			}
		}
	}
}

// P6.1: all streams of two bytes, and noise.
func TestUnpackNoiseAsTold(t *testing.T) {
	t.Parallel()
	for _, k := range kinds() {
		for v := range 1 << 16 {
			if v%7 == 0 || k.first < 5 {
				wantAsTold(t, k, []byte{byte(v), byte(v >> 8)}, v%4)
			}
		}
		for i := range uint32(2000) {
			b := probe.Noise(i, 1+int(i)%70)
			wantAsTold(t, k, b, plenty)
			wantAsTold(t, k, b, int(i)%20)
			// Without clear and end, which noise meets soon, it goes on longer.
			digits := k.digits(k.clear, k.first) + k.digits(1, k.first) + k.text(b)
			wantAsTold(t, k, k.bytes(digits, "0"), plenty)
		}
	}
}

// P6.1: just most bytes, one less, and of a string that doesn't fit no byte at
// all: what would be met behind it isn't.
func TestUnpackMost(t *testing.T) {
	for _, k := range kinds() {
		a := k.end() + 1
		codes := []int{k.clear, 0, 1, 2, a, a + 3, a + 4}
		ends := []int{1, 2, 3, 5, 8, 12}
		good := newStream(k).put(codes...).put(k.end())
		if len(good.out) != 12 || good.e != api.OK {
			t.Fatal("the tests' own table is at fault", good.out, good.e)
		}
		for most := -2; most < 12; most++ {
			wantFault(t, k, good.packed(), most, api.ErrLong)
			// The first code whose string is too long, and then nothing, or a
			// code that isn't there.
			i := slices.IndexFunc(ends, func(end int) bool { return end > most })
			s := newStream(k).put(codes[:i+2]...)
			wantFault(t, k, s.packed(), most, api.ErrLong)
			wantFault(t, k, s.put(1<<s.width-1, k.end()).packed(), most, api.ErrLong)
		}
		for _, most := range []int{12, 13, plenty, math.MaxInt} {
			want(t, k, good.packed(), most, good.out)
		}
		for _, most := range []int{-1, -100, math.MinInt} {
			wantFault(t, k, good.packed(), most, api.ErrLong)
		}
	}
}

// P6.1: a code that isn't there writes nothing, thus goes ahead of most; too few
// bits do so too.
func TestUnpackFaultsAheadOfMost(t *testing.T) {
	for _, k := range kinds() {
		a := k.end() + 1
		for _, most := range []int{0, -1} {
			wantFault(t, k, newStream(k).put(k.clear, a+1, k.end()).packed(), most, api.ErrCode)
			wantFault(t, k, newStream(k).put(a, k.end()).packed(), most, api.ErrCode)
			wantFault(t, k, k.bytes(k.digits(k.clear, k.first), "0")[:k.first/8], most, api.ErrEnd)
		}
		wantFault(t, k, newStream(k).put(k.clear, 1, a+1, k.end()).packed(), 1, api.ErrCode)
		wantFault(t, k, newStream(k).put(k.clear, 1, a, k.end()).packed(), 1, api.ErrLong)
		wantFault(t, k, newStream(k).put(k.clear, 1, a, k.end()).packed(), 2, api.ErrLong)
		want(t, k, newStream(k).put(k.clear, 1, a, k.end()).packed(), 3, []byte{1, 1, 1})
	}
}

// P6.1, R1: very many codes, and very long strings.
func TestUnpackLongStreams(t *testing.T) {
	t.Parallel()
	for _, k := range []kind{tiff, gif(2), gif(8)} {
		clears := k.bytes(strings.Repeat(k.digits(k.clear, k.first), 80000)+k.digits(k.end(), k.first), "0")
		want(t, k, clears, 0, nil)
		wantFault(t, k, clears[:len(clears)-2], plenty, api.ErrEnd)
		s := newStream(k).put(3)
		for len(s.strings) < 4096 {
			s.put(len(s.strings))
		}
		s.put(slices.Repeat([]int{4095}, 2000)...)
		b := s.put(k.end()).packed()
		want(t, k, b, len(s.out), bytes.Repeat([]byte{3}, len(s.out)))
		wantFault(t, k, b, len(s.out)-1, api.ErrLong)
		if len(s.out) < 1<<23 {
			t.Fatal(fmt.Sprint("too short a stream: ", len(s.out)))
		}
	}
}
