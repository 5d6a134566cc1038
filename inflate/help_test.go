package inflate_test

import (
	"bytes"
	"slices"
	"strings"
	"testing"

	"darkroom/api"
	"darkroom/inflate"
	"darkroom/probe"
)

// Streams are put together here as text of noughts and ones, in the order in
// which the bits come.

const (
	last    = "1"
	further = "0"
	plenty  = 1 << 20
)

// low writes a number's bits from the lowest up.
func low(v, n int) string {
	b := make([]byte, n)
	for i := range b {
		b[i] = '0' + byte(v>>i&1)
	}
	return string(b)
}

// head is what each block begins with.
func head(last string, kind int) string { return last + low(kind, 2) }

// pack fills the last byte up with fill's bit.
func pack(text, fill string) []byte {
	for len(text)%8 != 0 {
		text += fill
	}
	out := make([]byte, len(text)/8)
	for i := range text {
		out[i/8] |= (text[i] - '0') << (i % 8)
	}
	return out
}

// textOf is b bit by bit.
func textOf(b []byte) string {
	var t strings.Builder
	for _, x := range b {
		t.WriteString(low(int(x), 8))
	}
	return t.String()
}

// stored puts a block of kind 0 behind text; the bits up to the border are fill.
func stored(text, last string, fill string, b []byte) string {
	text += head(last, 0)
	for len(text)%8 != 0 {
		text += fill
	}
	return text + low(len(b), 16) + low(65535-len(b), 16) + textOf(b)
}

// A pair is the codes that a block's symbols are written by.
type pair struct {
	literals, distances []int
}

func fixed() pair {
	return pair{slices.Concat(alike(8, 144), alike(9, 112), alike(7, 24), alike(8, 8)), alike(5, 30)}
}

func (p pair) literal(symbol int) string  { return plainTexts(p.literals)[symbol] }
func (p pair) distance(symbol int) string { return plainTexts(p.distances)[symbol] }
func (p pair) end() string                { return p.literal(256) }

func (p pair) bytes(b []byte) string {
	codes := plainTexts(p.literals)
	var t strings.Builder
	for _, x := range b {
		t.WriteString(codes[x])
	}
	return t.String()
}

// match writes a length and a distance.
func (p pair) match(length, distance int) string {
	return p.part(p.literals, 257, length, plainLengths()) + p.part(p.distances, 0, distance, plainDistances())
}

func (p pair) part(lengths []int, first, v int, steps []step) string {
	for i := range slices.Backward(steps) {
		if v >= steps[i].least {
			return plainTexts(lengths)[first+i] + low(v-steps[i].least, steps[i].more)
		}
	}
	panic("no symbol for it")
}

// wide is a code of lengths in which each of the 19 symbols has one.
var wide = slices.Concat(alike(4, 13), alike(5, 6))

// order is how the lengths of the lengths' code follow one another.
var order = []int{16, 17, 18, 0, 8, 7, 9, 6, 10, 5, 11, 4, 12, 3, 13, 2, 14, 1, 15}

// tableHead is what stands ahead of the row: n lengths of the lengths' code.
func tableHead(literals, distances, n int, code []int) string {
	text := low(literals-257, 5) + low(distances-1, 5) + low(n-4, 4)
	for _, symbol := range order[:n] {
		text += low(code[symbol], 3)
	}
	return text
}

// wideHead is a block's head, and the table's, by the code wide.
func wideHead(last string, literals, distances int) string {
	return head(last, 2) + tableHead(literals, distances, 19, wide)
}

// each writes lengths one by one, by the lengths' code that is handed in.
func each(code, lengths []int) string {
	texts := plainTexts(code)
	var t strings.Builder
	for _, n := range lengths {
		t.WriteString(texts[n])
	}
	return t.String()
}

// times writes one of the symbols 16, 17, 18 by the code wide.
func times(symbol, n int) string {
	c := plainTexts(wide)[symbol]
	switch symbol {
	case 16:
		return c + low(n-3, 2)
	case 17:
		return c + low(n-3, 3)
	}
	return c + low(n-11, 7)
}

// told is the head of a block of kind 2 with these codes, each length by itself.
func told(last string, p pair) string {
	return wideHead(last, len(p.literals), len(p.distances)) + each(wide, p.literals) + each(wide, p.distances)
}

// full answers lengths of n symbols that make a full code.
func full(n int) []int {
	k := 0
	for 1<<k < n {
		k++
	}
	short := 1<<k - n
	return append(alike(k-1, short), alike(k, n-short)...)
}

// alike answers n numbers x.
func alike(x, n int) []int { return slices.Repeat([]int{x}, n) }

// with answers list with x at the place at.
func with(list []int, at, x int) []int {
	c := slices.Clone(list)
	c[at] = x
	return c
}

// nothing is a block that writes nothing and has an odd number of bits: put
// ahead of a text it moves it to another bit of a byte.
func nothing() string {
	row := times(18, 138) + times(18, 118) + each(wide, []int{1, 0})
	return wideHead(further, 257, 1) + row + "0"
}

// atBorder answers bytes whose last bits are those of text, with nothing behind
// them.
func atBorder(t *testing.T, text string) []byte {
	t.Helper()
	ahead := nothing()
	if len(ahead)%2 == 0 {
		t.Fatal("no odd number of bits: ", len(ahead))
	}
	for len(text)%8 != 0 {
		text = ahead + text
	}
	return pack(text, "0")
}

func wantRaw(t *testing.T, b []byte, most int, out []byte, begun int) {
	t.Helper()
	if gotB, gotN, gotE := inflate.Raw(b, most); !bytes.Equal(gotB, out) || gotN != begun || gotE != api.OK {
		t.Errorf("Raw(%s, %d) = %s, %d, %d; want %s, %d", probe.Short(b), most, probe.Short(gotB), gotN, gotE, probe.Short(out), begun)
	}
}

func wantFault(t *testing.T, b []byte, most int, e api.Errno) {
	t.Helper()
	if gotB, gotN, gotE := inflate.Raw(b, most); len(gotB) != 0 || gotN != 0 || gotE != e {
		t.Errorf("Raw(%s, %d) = %s, %d, %d; want %d", probe.Short(b), most, probe.Short(gotB), gotN, gotE, e)
	}
}

// wantText asks for what a text of bits is read as, with just as much room as
// it wants, and with one byte less.
func wantText(t *testing.T, text string, out []byte) {
	t.Helper()
	b := pack(text, "1")
	wantRaw(t, b, len(out), out, len(b))
	wantRaw(t, append(b, 0, 0xFF), plenty, out, len(b))
	if len(out) > 0 {
		wantFault(t, b, len(out)-1, api.ErrLong)
	}
}

// wantTextFault asks for a fault, at whichever bit of a byte the text begins;
// it may have no stored blocks, whose bytes stand at borders.
func wantTextFault(t *testing.T, text string, most int, e api.Errno) {
	t.Helper()
	for range 8 {
		wantFault(t, pack(text, "0"), most, e)
		wantFault(t, append(pack(text, "1"), probe.Noise(1, 20)...), most, e)
		text = nothing() + text
	}
}

// wantEndFault asks for a fault where no bit stands behind text.
func wantEndFault(t *testing.T, text string, most int, e api.Errno) {
	t.Helper()
	wantFault(t, atBorder(t, text), most, e)
}
