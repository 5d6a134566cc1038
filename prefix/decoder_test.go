package prefix_test

import (
	"fmt"
	"slices"
	"strings"
	"sync"
	"testing"

	"darkroom/api"
	"darkroom/bits"
	"darkroom/prefix"
	"darkroom/probe"
)

// plainNext goes bit by bit through text, as P3.3 tells it: the symbol, the
// error, and how many bits are taken.
func plainNext(codes []string, text string) (int, api.Errno, int) {
	for taken := 0; ; taken++ {
		some := false
		for symbol, c := range codes {
			if c == "" {
				continue
			}
			if c == text[:taken] {
				return symbol, api.OK, taken
			}
			some = some || strings.HasPrefix(c, text[:taken])
		}
		if !some {
			return 0, api.ErrCode, taken
		}
		if taken == len(text) {
			return 0, api.ErrEnd, taken
		}
	}
}

// P3.3: an error of New's stands beside no decoder; all others have one.
func TestNew(t *testing.T) {
	for name, lengths := range codeLists() {
		if d, e := prefix.New(lengths); d == nil || e != api.OK {
			t.Errorf("%s: New = %v, %d", name, d, e)
		}
	}
	wantFault(t, []int{1, 1, 1}, api.OK, api.ErrOver)
	wantFault(t, []int{17}, api.ErrRange, api.ErrRange)
	wantFault(t, []int{-1}, api.ErrRange, api.ErrRange)
	wantFault(t, alike(0, 4097), api.ErrLong, api.ErrLong)
}

// P3.3: nil stands ahead of all that the other one would say, and takes nothing.
func TestNextOfNil(t *testing.T) {
	var none *prefix.Decoder
	r := bits.NewReader([]byte{0x5A}, true)
	wantNext(t, none, r, 0, api.ErrNil, 0)
	wantNext(t, none, bits.NewReader(nil, true), 0, api.ErrNil, 0)
	wantNext(t, none, nil, 0, api.ErrNil, 0)
	for _, lengths := range [][]int{nil, {0, 0}, {0, 1}, {2, 1, 3, 3}} {
		wantNext(t, decoderOf(t, lengths), nil, 0, api.ErrNil, 0)
	}
	wantPlaceOf(t, r, 0, 8)
}

func wantPlaceOf(t *testing.T, r *bits.Reader, place, left int) {
	t.Helper()
	if r.Place() != place || r.Left() != left {
		t.Errorf("Place, Left = %d, %d; want %d, %d", r.Place(), r.Left(), place, left)
	}
}

func TestNextExamples(t *testing.T) {
	d := decoderOf(t, []int{2, 1, 3, 3})
	r := bits.NewReader([]byte{0b10011011, 0b10000000}, true)
	wantNext(t, d, r, 0, api.OK, 2)
	wantNext(t, d, r, 1, api.OK, 1)
	wantNext(t, d, r, 2, api.OK, 3)
	wantNext(t, d, r, 3, api.OK, 3)
	one := decoderOf(t, []int{1})
	wantNext(t, one, bits.NewReader([]byte{0}, true), 0, api.OK, 1)
	wantNext(t, one, bits.NewReader([]byte{128}, true), 0, api.ErrCode, 1)
	wantNext(t, one, bits.NewReader(nil, true), 0, api.ErrEnd, 0)
}

// P3.3: a code's highest bit is the first one that comes, in whichever order a
// reader gives bits.
func TestNextFromALowReader(t *testing.T) {
	d := decoderOf(t, []int{2, 1, 3, 3})
	r := bits.NewReader([]byte{0b11011001, 0b00000001}, false)
	wantNext(t, d, r, 0, api.OK, 2)
	wantNext(t, d, r, 1, api.OK, 1)
	wantNext(t, d, r, 2, api.OK, 3)
	wantNext(t, d, r, 3, api.OK, 3)
}

// P3.3: without any code the error comes ahead of the first bit, and so also
// where no bit is left.
func TestNextWithoutAnyCode(t *testing.T) {
	for _, lengths := range [][]int{nil, {}, {0}, {0, 0, 0}, alike(0, 4096)} {
		d := decoderOf(t, lengths)
		r := bits.NewReader([]byte{0x0F}, true)
		for range 3 {
			wantNext(t, d, r, 0, api.ErrCode, 0)
		}
		wantPlaceOf(t, r, 0, 8)
		wantNext(t, d, bits.NewReader(nil, true), 0, api.ErrCode, 0)
	}
}

// P3.3: with one symbol, of any length, ErrCode comes at its code's first bit
// that isn't there, no later, and all that was taken stays taken.
func TestNextWithOneSymbol(t *testing.T) {
	for n := 1; n <= 16; n++ {
		d := decoderOf(t, []int{0, 0, 0, n, 0})
		wantNext(t, d, bits.NewReader(make([]byte, 3), true), 3, api.OK, n)
		for at := range n {
			text := strings.Repeat("0", at) + "1" + strings.Repeat("0", 20)
			r := behind(text, true)
			wantNext(t, d, r, 0, api.ErrCode, at+1)
			// What stands behind is read from there on.
			wantNext(t, d, r, 3, api.OK, n)
			wantNext(t, d, behind(text[:at], true), 0, api.ErrEnd, at)
			wantNext(t, d, behind(text[:at+1], true), 0, api.ErrCode, at+1)
		}
	}
}

// P3.3: bits that end within a code are taken, and the next call finds none.
func TestNextAtTheEnd(t *testing.T) {
	d := decoderOf(t, []int{0, 1, 2, 3, 4, 5, 6, 7, 8, 9, 10, 11, 12, 13, 14, 15, 16, 16})
	for n := range 16 {
		for _, high := range []bool{true, false} {
			r := behind("0"+strings.Repeat("1", n), high)
			wantNext(t, d, r, 1, api.OK, 1)
			wantNext(t, d, r, 0, api.ErrEnd, n)
			wantNext(t, d, r, 0, api.ErrEnd, 0)
			if r.Left() != 0 {
				t.Error(n, "bits: some are left")
			}
		}
	}
	wantNext(t, d, behind(strings.Repeat("1", 16), true), 17, api.OK, 16)
	wantNext(t, d, behind(strings.Repeat("1", 15)+"0", true), 16, api.OK, 16)
}

// P3.3: behind an error the next bits are the beginning of a code.
func TestNextGoesOnBehindAnError(t *testing.T) {
	d := decoderOf(t, []int{3, 2, 3, 0, 4}) // 010 00 011 - 1000
	r := behind("101"+"11"+"1001"+"011"+"1000"+"00"+"01", true)
	wantNext(t, d, r, 0, api.ErrCode, 3)
	wantNext(t, d, r, 0, api.ErrCode, 2)
	wantNext(t, d, r, 0, api.ErrCode, 4)
	wantNext(t, d, r, 2, api.OK, 3)
	wantNext(t, d, r, 4, api.OK, 4)
	wantNext(t, d, r, 1, api.OK, 2)
	wantNext(t, d, r, 0, api.ErrEnd, 2)
}

// P3.3: all bits there may be up to some number of them, and noise, for all
// lists, against the codes written out.
func TestNextAsTold(t *testing.T) {
	var texts []string
	for n := range 9 {
		for number := range 1 << n {
			texts = append(texts, plainCode(uint32(number), n)[:n])
		}
	}
	for i := range 150 {
		text := ""
		for _, bit := range noise(uint32(i), 17, 2) {
			text += fmt.Sprint(bit)
		}
		texts = append(texts, text)
	}
	for name, lengths := range codeLists() {
		if len(lengths) > 400 {
			continue
		}
		d, codes := decoderOf(t, lengths), plainTexts(lengths)
		for _, text := range texts {
			r := behind(text, true)
			from := r.Place()
			symbol, e := d.Next(r)
			wantS, wantE, taken := plainNext(codes, text)
			if symbol != wantS || e != wantE || r.Place()-from != taken {
				t.Fatalf("%s, bits %s: %d, %d, %d taken; want %d, %d, %d",
					name, text, symbol, e, r.Place()-from, wantS, wantE, taken)
			}
		}
	}
}

// wantEachCode asks d for each symbol of lengths by its code.
func wantEachCode(t *testing.T, name string, d *prefix.Decoder, lengths []int) {
	t.Helper()
	for symbol, code := range plainTexts(lengths) {
		if code == "" {
			continue
		}
		r := behind(code, true)
		if s, e := d.Next(r); s != symbol || e != api.OK || r.Left() != 0 {
			t.Errorf("%s: %s = %d, %d; want %d", name, code, s, e, symbol)
		}
	}
}

// P3.3: each code of each list, and each code but its last bit.
func TestNextReadsEachCode(t *testing.T) {
	for name, lengths := range codeLists() {
		d := decoderOf(t, lengths)
		wantEachCode(t, name, d, lengths)
		for _, code := range plainTexts(lengths) {
			if code == "" {
				continue
			}
			if s, e := d.Next(behind(code[:len(code)-1], true)); s != 0 || e != api.ErrEnd {
				t.Fatalf("%s: %s without its last bit = %d, %d", name, code, s, e)
			}
		}
	}
}

// P3.4: what is written by the codes is read symbol by symbol.
func TestThereAndBack(t *testing.T) {
	lists := codeLists()
	for i, most := range []int{4, 9, 12, 15, 16} {
		counts := noise(uint32(i), 16<<i, 1000)
		lists[fmt.Sprint("built with most ", most)], _ = prefix.Build(counts, most)
	}
	for name, lengths := range lists {
		for _, high := range []bool{true, false} {
			thereAndBack(t, fmt.Sprint(name, " ", high), lengths, high)
		}
	}
}

func thereAndBack(t *testing.T, name string, lengths []int, high bool) {
	t.Helper()
	codes, _ := prefix.Codes(lengths)
	var text []int
	w := bits.NewWriter(high)
	for _, x := range noise(7, 2000, max(len(lengths), 1)) {
		if x >= len(lengths) || lengths[x] == 0 {
			continue
		}
		text = append(text, x)
		for i := range lengths[x] {
			w.Put(codes[x]>>(lengths[x]-1-i), 1)
		}
	}
	d, r := decoderOf(t, lengths), bits.NewReader(w.Bytes(), high)
	for i, want := range text {
		if s, e := d.Next(r); s != want || e != api.OK {
			t.Fatalf("%s: symbol %d = %d, %d; want %d", name, i, s, e, want)
		}
	}
	if r.Place() != w.Len() {
		t.Errorf("%s: %d bits were written, %d taken", name, w.Len(), r.Place())
	}
}

// P3.4: a high writer takes a code as the number that it is.
func TestThereAndBackByWholeNumbers(t *testing.T) {
	for _, lengths := range codeLists() {
		codes, _ := prefix.Codes(lengths)
		w := bits.NewWriter(true)
		for symbol, n := range lengths {
			w.Put(codes[symbol], n)
		}
		d, r := decoderOf(t, lengths), bits.NewReader(w.Bytes(), true)
		for symbol, n := range lengths {
			if n > 0 {
				wantNext(t, d, r, symbol, api.OK, n)
			}
		}
	}
}

// R4: a decoder keeps nothing of the lengths that it was made of.
func TestDecoderKeepsNoLengths(t *testing.T) {
	for name, lengths := range codeLists() {
		given := slices.Clone(lengths)
		d := decoderOf(t, given)
		probe.Spoil(given)
		wantEachCode(t, name, d, lengths)
	}
}

// R5: what one reader gave changes nothing for another one.
func TestOneDecoderForTwoReaders(t *testing.T) {
	d := decoderOf(t, []int{2, 1, 3, 3})
	a, b := behind("10"+"111"+"0"+"11", true), behind("0"+"0"+"110"+"10", false)
	wantNext(t, d, a, 0, api.OK, 2)
	wantNext(t, d, b, 1, api.OK, 1)
	wantNext(t, d, a, 3, api.OK, 3)
	wantNext(t, d, b, 1, api.OK, 1)
	wantNext(t, d, a, 1, api.OK, 1)
	wantNext(t, d, a, 0, api.ErrEnd, 2)
	wantNext(t, d, b, 2, api.OK, 3)
	wantNext(t, d, b, 0, api.OK, 2)
}

// R5 and R6: no call hangs on those ahead of it, nor on those beside it.
func TestCallsHangOnNothingElse(t *testing.T) {
	lengths := roomyLengths(5)
	shared := decoderOf(t, lengths)
	counts := noise(5, 200, 1000)
	built, _ := prefix.Build(counts, 10)
	var ws sync.WaitGroup
	for range 8 {
		ws.Go(func() {
			for range 20 {
				wantEachCode(t, "one of several", shared, lengths)
				if l, e := prefix.Build(counts, 10); !slices.Equal(l, built) || e != api.OK {
					t.Errorf("%v, %d", l, e)
				}
			}
		})
	}
	ws.Wait()
}
