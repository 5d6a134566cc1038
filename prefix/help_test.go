package prefix_test

import (
	"fmt"
	"math"
	"slices"
	"testing"

	"darkroom/api"
	"darkroom/bits"
	"darkroom/prefix"
)

// noise answers n numbers from 0 up to below top that look like none in
// particular, the same each time for one seed.
func noise(seed uint32, n, top int) []int {
	out := make([]int, n)
	s := seed*2654435761 + 12345
	for i := range out {
		s = s*1664525 + 1013904223
		out[i] = int(s>>8) % top
	}
	return out
}

// alike answers n numbers x.
func alike(x, n int) []int { return slices.Repeat([]int{x}, n) }

// with answers list with x at the place at.
func with(list []int, at, x int) []int {
	c := slices.Clone(list)
	c[at] = x
	return c
}

// short tells a list, but not all of a long one.
func short(list []int) string {
	if len(list) <= 40 {
		return fmt.Sprint(list)
	}
	return fmt.Sprintf("%v.. (%d)", list[:10], len(list))
}

// wrongLengths are those that no code has.
var wrongLengths = []int{-1, 17, -16, 32, 64, math.MinInt, math.MaxInt}

// codeLists are lengths for whose codes there is room: with some left and with
// none, with symbols that have no code, with one code, with no code at all.
func codeLists() map[string][]int {
	lists := map[string][]int{
		"nothing":               nil,
		"an empty list":         {},
		"no code":               {0},
		"4096 without a code":   alike(0, 4096),
		"the example":           {2, 1, 3, 3},
		"one of 1 bit":          {1},
		"one of 1 bit, last":    {0, 0, 0, 1},
		"one of 2 bits":         {0, 2, 0},
		"one of 16 bits":        {16},
		"both of 1 bit":         {1, 1},
		"both of 1 bit, apart":  {0, 1, 0, 0, 1, 0},
		"1 and 16":              {16, 1},
		"three of 2":            {2, 0, 2, 2},
		"a gap between lengths": {5, 0, 3, 5, 9, 3},
		"falling":               {6, 6, 5, 4, 3, 2, 1},
		"one short of full":     {1, 2, 3, 4, 5, 5 + 1},
		"4096 of 12":            alike(12, 4096),
		"4096 of 16":            alike(16, 4096),
		"4095 of 12 and a gap":  with(alike(12, 4096), 1000, 0),
		"deflate's literals":    slices.Concat(alike(8, 144), alike(9, 112), alike(7, 24), alike(8, 8)),
		"deflate's distances":   alike(5, 30),
		"to the deepest, full":  {1, 2, 3, 4, 5, 6, 7, 8, 9, 10, 11, 12, 13, 14, 15, 16, 16},
		"to the deepest":        {16, 15, 14, 13, 12, 11, 10, 9, 8, 7, 6, 5, 4, 3, 2, 1},
	}
	for i := range 40 {
		lists[fmt.Sprint("noise ", i)] = roomyLengths(uint32(i))
	}
	return lists
}

// roomyLengths answers lengths made at a venture, without those for which there
// is no room; of each third seed so few that room is left.
func roomyLengths(seed uint32) []int {
	var out []int
	room, size := 65536, 300
	if seed%3 == 0 {
		size = 3 + int(seed)/6
	}
	for i, n := range noise(seed, size, 17) {
		if seed%2 == 0 && n > 0 {
			n = 2 + (n+i)%7
		}
		if n > 0 && 65536>>n > room {
			n = 0
		}
		if n > 0 {
			room -= 65536 >> n
		}
		out = append(out, n)
	}
	return out
}

// plainCodes goes symbol by symbol, as the chapter's section Codes tells it.
func plainCodes(lengths []int) []uint32 {
	codes := make([]uint32, len(lengths))
	number, ahead := uint32(0), 0
	for n := 1; n <= 16; n++ {
		for symbol, l := range lengths {
			if l != n {
				continue
			}
			if ahead > 0 {
				number++
				for range n - ahead {
					number *= 2
				}
			}
			codes[symbol], ahead = number, n
		}
	}
	return codes
}

// plainCode is a code as its bits, written out as noughts and ones.
func plainCode(number uint32, length int) string {
	return fmt.Sprintf("%0*b", length, number)
}

// plainTexts answers the codes of all symbols, written out; "" for none.
func plainTexts(lengths []int) []string {
	texts := make([]string, len(lengths))
	for symbol, number := range plainCodes(lengths) {
		if lengths[symbol] > 0 {
			texts[symbol] = plainCode(number, lengths[symbol])
		}
	}
	return texts
}

// readerOf reads text's noughts and ones and what fills their last byte up.
func readerOf(text string, high bool) *bits.Reader {
	w := bits.NewWriter(high)
	for i := range len(text) {
		w.Put(uint32(text[i]-'0'), 1)
	}
	return bits.NewReader(w.Bytes(), high)
}

// behind answers a reader of text alone: what would fill the last byte up is
// put ahead of it, and taken.
func behind(text string, high bool) *bits.Reader {
	fill := (8 - len(text)%8) % 8
	r := readerOf(fmt.Sprintf("%0*d", fill, 0)[:fill]+text, high)
	r.Take(fill)
	return r
}

func decoderOf(t *testing.T, lengths []int) *prefix.Decoder {
	t.Helper()
	d, e := prefix.New(lengths)
	if d == nil || e != api.OK {
		t.Fatalf("New(%s) = %v, %d", short(lengths), d, e)
	}
	return d
}

// wantNext asks for a symbol, and how many bits are taken for it.
func wantNext(t *testing.T, d *prefix.Decoder, r *bits.Reader, symbol int, e api.Errno, taken int) {
	t.Helper()
	from := r.Place()
	gotS, gotE := d.Next(r)
	if gotS != symbol || gotE != e || r.Place()-from != taken {
		t.Errorf("Next = %d, %d, %d bits taken; want %d, %d, %d", gotS, gotE, r.Place()-from, symbol, e, taken)
	}
}

// wantFault asks all three calls that are handed lengths for an error.
func wantFault(t *testing.T, lengths []int, room, code api.Errno) {
	t.Helper()
	if n, e := prefix.Room(lengths); e != room || e != api.OK && n != 0 {
		t.Errorf("Room(%s) = %d, %d; want %d", short(lengths), n, e, room)
	}
	if c, e := prefix.Codes(lengths); e != code || e != api.OK && len(c) != 0 {
		t.Errorf("Codes(%s) = %v, %d; want %d", short(lengths), c, e, code)
	}
	if d, e := prefix.New(lengths); e != code || (e == api.OK) != (d != nil) {
		t.Errorf("New(%s) = %v, %d; want %d", short(lengths), d, e, code)
	}
}
