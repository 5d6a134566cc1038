package inflate_test

import (
	"bytes"
	"fmt"
	"math"
	"slices"
	"strings"
	"testing"

	"darkroom/api"
	"darkroom/probe"
)

func TestRawExamples(t *testing.T) {
	wantRaw(t, []byte{1, 3, 0, 0xFC, 0xFF, 'a', 'b', 'c'}, 9, []byte("abc"), 8)
	wantRaw(t, []byte{0x4B, 4, 0}, 9, []byte("a"), 3)
	wantFault(t, []byte{7}, 9, api.ErrBlock)
	wantFault(t, []byte{0x4B, 4, 0}, 0, api.ErrLong)
}

// Streams that are known from elsewhere.
func TestKnownStreams(t *testing.T) {
	wantRaw(t, []byte{3, 0}, 0, nil, 2)
	wantRaw(t, []byte{0x4B, 0x4C, 0x84, 1, 0}, 99, bytes.Repeat([]byte("a"), 10), 5)
	wantRaw(t, []byte{0xF3, 0x48, 0xCD, 0xC9, 0xC9, 0x57, 0x08, 0xCF, 0x2F, 0xCA, 0x49, 0x01, 0},
		99, []byte("Hello World"), 13)
	out := []byte("abaabbbabaababbaababaaaabaaabbbbbaa")
	// By fixed codes, by codes that are told with matches, with some, with none.
	for _, b := range [][]byte{
		{
			0x4B, 0x4C, 0x4A, 0x4C, 0x4C, 0x4A, 0x4A, 0x4A, 0x04, 0x51, 0x40, 0x06, 0x98, 0x4C,
			0x4C, 0x4C, 0x04, 0x13, 0x49, 0x20, 0x90, 0x98, 0x08, 0x00,
		},
		{
			0x1D, 0xC6, 0x49, 0x01, 0x00, 0x00, 0x10, 0x40, 0xC0, 0xAC, 0xA3, 0x7F, 0x88, 0x3D,
			0x3C, 0x20, 0x2A, 0x97, 0x9D, 0x37, 0x5E, 0x1D, 0x0C,
		},
		{
			0x15, 0xC1, 0x01, 0x01, 0x00, 0x00, 0x08, 0xC3, 0xA0, 0xAC, 0xAC, 0x7F, 0x08, 0x2F,
			0x88, 0x4A, 0xA4, 0x48, 0x26, 0xF4, 0x38,
		},
		{
			0x05, 0xC1, 0x01, 0x01, 0x00, 0x00, 0x00, 0x80, 0x90, 0xAD, 0xFA, 0x3F, 0x22, 0x44,
			0x25, 0x52, 0x24, 0x08, 0x55, 0x31,
		},
	} {
		wantRaw(t, b, len(out), out, len(b))
		wantFault(t, b, len(out)-1, api.ErrLong)
		wantFault(t, b[:len(b)-1], len(out), api.ErrEnd)
	}
}

// P4.1: no bytes at all, whatever most is.
func TestNoBytesAtAll(t *testing.T) {
	for _, most := range []int{math.MinInt, -1, 0, 1, plenty, math.MaxInt} {
		wantFault(t, nil, most, api.ErrEnd)
		wantFault(t, []byte{}, most, api.ErrEnd)
	}
}

// P4.1: kind 3, wherever it stands, and whether or not it is the last block.
func TestKind3(t *testing.T) {
	for _, l := range []string{last, further} {
		wantTextFault(t, head(l, 3), plenty, api.ErrBlock)
		wantEndFault(t, head(l, 3), plenty, api.ErrBlock)
		wantFault(t, pack(stored("", further, "0", []byte("ab"))+head(l, 3), "0"), plenty, api.ErrBlock)
	}
	wantEndFault(t, last, plenty, api.ErrEnd)
	wantEndFault(t, last+"1", plenty, api.ErrEnd)
}

// P4.1: stored blocks of all kinds of sizes, from each bit of a byte on; the
// bits up to the border may be whatever they are.
func TestStored(t *testing.T) {
	for _, n := range []int{0, 1, 2, 255, 256, 257, 65534, 65535} {
		ahead := ""
		for range 8 {
			for _, fill := range []string{"0", "1"} {
				wantText(t, stored(ahead, last, fill, probe.Noise(3, n)), probe.Noise(3, n))
			}
			ahead += nothing()
			if n > 1000 && len(ahead)%8 == 3 {
				break
			}
		}
	}
}

// P4.1: no border's bits are there to be dropped, if the head ends at one.
func TestStoredFromABorderOn(t *testing.T) {
	for text := nothing(); len(text) < 9*len(nothing()); text += nothing() {
		if len(text)%8 == 5 {
			b := pack(text+head(last, 0), "0")
			b = append(b, 2, 0, 0xFD, 0xFF, 'x', 'y')
			wantRaw(t, b, 2, []byte("xy"), len(b))
		}
	}
}

// P4.1: each bit of both numbers tells.
func TestStoredWithAWrongNumber(t *testing.T) {
	good := pack(stored("", last, "0", probe.Noise(4, 300)), "0")
	for bit := 8; bit < 40; bit++ {
		b := bytes.Clone(good)
		b[bit/8] ^= 1 << (bit % 8)
		wantFault(t, b, plenty, api.ErrBlock)
		wantFault(t, b, 0, api.ErrBlock)
		wantFault(t, b[:5], plenty, api.ErrBlock)
	}
	wantFault(t, []byte{1, 3, 0, 3, 0, 1, 2, 3}, plenty, api.ErrBlock)
	wantFault(t, []byte{1, 0, 0, 0, 0}, plenty, api.ErrBlock)
	wantFault(t, []byte{1, 0xFF, 0xFF, 0xFF, 0xFF}, plenty, api.ErrBlock)
}

// P4.1: of a stored block the number and the other one are looked at, then most,
// then whether the bytes are there.
func TestStoredFaultsInTheirOrder(t *testing.T) {
	good := pack(stored("", last, "0", []byte("abcd")), "0")
	for n := range len(good) {
		wantFault(t, good[:n], 4, api.ErrEnd)
		wantFault(t, good[:n], plenty, api.ErrEnd)
		for _, most := range []int{3, 0, -1} {
			if n < 5 {
				wantFault(t, good[:n], most, api.ErrEnd)
			} else {
				wantFault(t, good[:n], most, api.ErrLong)
			}
		}
	}
	two := append(pack(stored("", further, "0", []byte("xyz")), "0"), good...)
	wantRaw(t, two, 7, []byte("xyzabcd"), len(two))
	wantFault(t, two, 6, api.ErrLong)
	wantFault(t, two[:len(two)-4], 6, api.ErrLong)
	wantFault(t, two[:len(two)-4], 7, api.ErrEnd)
	wantFault(t, two[:len(two)-1], 7, api.ErrEnd)
}

// P4.1: each literal by the fixed codes.
func TestFixedLiterals(t *testing.T) {
	all := make([]byte, 256)
	for i := range all {
		all[i] = byte(i)
		wantText(t, head(last, 1)+fixed().literal(i)+fixed().end(), all[i:i+1])
	}
	wantText(t, head(last, 1)+fixed().bytes(all)+fixed().end(), all)
	wantText(t, head(last, 1)+fixed().end(), nil)
	wantText(t, head(last, 1)+"00110000"+"10111111"+"110010000"+"111111111"+"0000000", []byte{0, 143, 144, 255})
}

// allPairs are codes of different shapes that have all symbols there are.
func allPairs() map[string]pair {
	deepest := pair{deep(286, 6), deep(30, 10)}
	turned := pair{slices.Clone(deepest.literals), slices.Clone(deepest.distances)}
	slices.Reverse(turned.literals)
	slices.Reverse(turned.distances)
	return map[string]pair{
		"fixed":  fixed(),
		"flat":   {full(286), full(30)},
		"deep":   deepest,
		"turned": turned,
	}
}

// deep answers lengths of n symbols: 1, 2, up to k, and then those of a full
// code in the room that is left.
func deep(n, k int) []int {
	var lengths []int
	for i := range k {
		lengths = append(lengths, i+1)
	}
	for _, l := range full(n - k) {
		lengths = append(lengths, k+l)
	}
	return lengths
}

// ahead is the head of the last block with these codes.
func (p pair) ahead(name string) string {
	if name == "fixed" {
		return head(last, 1)
	}
	return told(last, p)
}

// P4.1: each symbol of a length, with all bits that may stand behind it.
func TestLengths(t *testing.T) {
	for name, p := range allPairs() {
		lengths := plainTexts(p.literals)
		for i, s := range plainLengths() {
			for more := range 1 << s.more {
				text := p.ahead(name) + p.literal('q') + lengths[257+i] + low(more, s.more) + p.distance(0) + p.end()
				out := bytes.Repeat([]byte("q"), 1+s.least+more)
				b := pack(text, "0")
				wantRaw(t, b, len(out), out, len(b))
				wantFault(t, b, len(out)-1, api.ErrLong)
			}
		}
	}
}

// P4.1: 258 is also what the last symbol but one says with all bits set.
func TestTheGreatestLengths(t *testing.T) {
	p := fixed()
	one := head(last, 1) + p.literal('q')
	wantText(t, one+p.literal(284)+"11111"+p.distance(0)+p.end(), bytes.Repeat([]byte("q"), 259))
	wantText(t, one+p.literal(284)+"01111"+p.distance(0)+p.end(), bytes.Repeat([]byte("q"), 258))
	wantText(t, one+p.literal(285)+p.distance(0)+p.end(), bytes.Repeat([]byte("q"), 259))
	wantText(t, one+p.literal(257)+p.distance(0)+p.end(), bytes.Repeat([]byte("q"), 4))
	wantText(t, one+p.literal(264)+p.distance(0)+p.end(), bytes.Repeat([]byte("q"), 11))
	wantText(t, one+p.literal(265)+"0"+p.distance(0)+p.end(), bytes.Repeat([]byte("q"), 12))
}

// P4.1: each symbol of a distance, with bits behind it of all kinds, where all
// 32768 bytes were written, just as many as it says, and one less.
func TestDistances(t *testing.T) {
	written := probe.Noise(9, 32768)
	for name, p := range allPairs() {
		distances := plainTexts(p.distances)
		for i, s := range plainDistances() {
			whole := 1<<s.more - 1
			for _, more := range []int{0, 1 & whole, 5 & whole, 0x0AAA & whole, whole >> 1, whole} {
				d := s.least + more
				tail := pack(p.ahead(name)+p.literal(258)+distances[i]+low(more, s.more)+p.end(), "0")
				wantMatch(t, written, tail, d)
				wantMatch(t, written[:d], tail, d)
				wantFault(t, append(storedBytes(further, written[:d-1]), tail...), plenty, api.ErrFar)
			}
		}
	}
}

// wantMatch asks for what stands in a stored block, and four bytes more.
func wantMatch(t *testing.T, written, tail []byte, distance int) {
	t.Helper()
	b := append(storedBytes(further, written), tail...)
	wantRaw(t, b, len(written)+4, append(bytes.Clone(written), again(written, 4, distance)...), len(b))
}

// storedBytes is a block of kind 0 that begins at a border.
func storedBytes(last string, b []byte) []byte {
	n := len(b)
	return append([]byte{last[0] - '0', byte(n), byte(n >> 8), ^byte(n), ^byte(n >> 8)}, b...)
}

// again is what a match writes.
func again(b []byte, length, distance int) []byte {
	c := bytes.Clone(b[len(b)-distance:])
	for range length {
		c = append(c, c[len(c)-distance])
	}
	return c[distance:]
}

// P4.1: a match may be longer than it is far.
func TestOverlappingMatches(t *testing.T) {
	p := fixed()
	for distance := 1; distance <= 12; distance++ {
		for length := 3; length <= 40; length++ {
			first := probe.Noise(uint32(distance), 12)
			text := head(last, 1) + p.bytes(first) + p.match(length, distance) + p.literal('!') + p.end()
			wantText(t, text, append(append(bytes.Clone(first), again(first, length, distance)...), '!'))
		}
	}
	wantText(t, head(last, 1)+p.bytes([]byte("ab"))+p.match(258, 2)+p.end(), bytes.Repeat([]byte("ab"), 130))
}

// P4.1: a match behind another one, and such as reach into the blocks ahead, of
// whatever kind they are.
func TestMatchesReachIntoBlocksAhead(t *testing.T) {
	p, q := fixed(), pair{full(286), full(30)}
	text := stored("", further, "1", []byte("abc")) + head(further, 1) + p.match(3, 3) + p.end()
	text += told(further, q) + q.match(4, 6) + q.literal('x') + q.end()
	text = stored(text, further, "0", []byte("yz"))
	out := []byte("abcabcabcaxyz")
	wantText(t, text+head(last, 1)+p.end(), out)
	out = append(out, again(out, 16, 13)...)
	text += head(last, 1) + p.match(16, 13)
	wantText(t, text+p.end(), out)
	for distance := 1; distance <= 29; distance++ {
		wantText(t, text+p.match(3, distance)+p.end(), append(bytes.Clone(out), again(out, 3, distance)...))
	}
	wantFault(t, pack(text+p.match(3, 30)+p.end(), "0"), plenty, api.ErrFar)
}

// P4.1: the literals 286 and 287 and the distances 30 and 31 are no code's; what
// can't be a code any more is told before its last bit.
func TestSymbolsThatMayNotBe(t *testing.T) {
	p := fixed()
	for _, ahead := range []string{head(last, 1), head(further, 1), head(last, 1) + p.bytes([]byte("abcde"))} {
		for _, symbol := range []string{p.literal(286), p.literal(287)} {
			wantTextFault(t, ahead+symbol, plenty, api.ErrCode)
			wantTextFault(t, ahead+symbol+p.distance(0), 5, api.ErrCode)
			wantEndFault(t, ahead+symbol, plenty, api.ErrCode)
			wantEndFault(t, ahead+symbol[:7], plenty, api.ErrEnd)
		}
		for _, symbol := range []string{"11110", "11111", "1111"} {
			wantTextFault(t, ahead+p.literal(257)+symbol+"1111111111111", plenty, api.ErrCode)
			wantEndFault(t, ahead+p.literal(257)+symbol, plenty, api.ErrCode)
		}
		wantEndFault(t, ahead+p.literal(257)+"111", plenty, api.ErrEnd)
		wantEndFault(t, ahead+p.literal(257)+"1110", plenty, api.ErrEnd)
	}
	wantTextFault(t, head(last, 1)+p.literal(285)+p.distance(29)+low(0, 13), plenty, api.ErrFar)
}

// P4.1: with nothing written each distance is too far, and told ahead of what
// most says; but only when all its bits are there.
func TestTooFar(t *testing.T) {
	p := fixed()
	for i, s := range plainDistances() {
		match := head(last, 1) + p.literal(285) + p.distance(i)
		for _, most := range []int{plenty, 258, 257, 0, -5} {
			wantTextFault(t, match+low(0, s.more), most, api.ErrFar)
			wantEndFault(t, match+low(0, s.more), most, api.ErrFar)
			if s.more > 0 {
				wantEndFault(t, match+low(0, s.more-1), most, api.ErrEnd)
				wantEndFault(t, match, most, api.ErrEnd)
			}
		}
	}
	three := head(last, 1) + p.bytes([]byte("abc"))
	wantText(t, three+p.match(10, 3)+p.end(), []byte("abcabcabcabca"))
	for _, most := range []int{3, 12, 13, plenty} {
		wantTextFault(t, three+p.match(10, 4), most, api.ErrFar)
	}
	for _, most := range []int{3, 4, 12} {
		wantTextFault(t, three+p.match(10, 3), most, api.ErrLong)
		wantEndFault(t, three+p.match(10, 3), most, api.ErrLong)
	}
	wantTextFault(t, three+p.match(10, 4), 2, api.ErrLong)
}

// P4.1: bits that a length or a distance wants and that aren't there.
func TestMatchesThatAreCutOff(t *testing.T) {
	p := fixed()
	match := head(last, 1) + p.literal('a') + p.literal(284) + "01111"
	for cut := 1; cut <= 5; cut++ {
		wantEndFault(t, match[:len(match)-cut], plenty, api.ErrEnd)
	}
	match += p.distance(0)
	for cut := 1; cut <= 5; cut++ {
		wantEndFault(t, match[:len(match)-cut], plenty, api.ErrEnd)
	}
	wantEndFault(t, match, plenty, api.ErrEnd)
	wantEndFault(t, match, 258, api.ErrEnd)
	wantEndFault(t, match, 257, api.ErrLong)
}

// P4.1: most is just what is written, less and more, below nought and as great
// as a number can be; literals count one by one.
func TestMost(t *testing.T) {
	p := fixed()
	text := head(further, 1) + p.bytes([]byte("abcdef")) + p.end() + head(last, 1) + p.bytes([]byte("gh")) + p.end()
	b := pack(text, "0")
	for _, most := range []int{8, 9, plenty, math.MaxInt} {
		wantRaw(t, b, most, []byte("abcdefgh"), len(b))
	}
	for _, most := range []int{7, 6, 5, 1, 0, -1, -8, math.MinInt} {
		wantFault(t, b, most, api.ErrLong)
		// The literal that is too many is told, whatever stands behind it.
		at := len(head(further, 1)) + 8*(max(most, 0)+1)
		if most < 6 {
			wantEndFault(t, text[:at], most, api.ErrLong)
			wantEndFault(t, text[:at-1], most, api.ErrEnd)
		}
	}
	for _, most := range []int{0, -1, math.MinInt, math.MaxInt} {
		wantRaw(t, []byte{3, 0}, most, nil, 2)
		wantRaw(t, []byte{1, 0, 0, 0xFF, 0xFF}, most, nil, 5)
	}
}

// P4.1: several blocks, of each kind behind each other one.
func TestSeveralBlocks(t *testing.T) {
	p, q := fixed(), pair{full(257), full(1)}
	q.distances = []int{1}
	kinds := []func(text, last string, b []byte) string{
		func(text, last string, b []byte) string { return stored(text, last, "1", b) },
		func(text, last string, b []byte) string { return text + head(last, 1) + p.bytes(b) + p.end() },
		func(text, last string, b []byte) string { return text + told(last, q) + q.bytes(b) + q.end() },
	}
	for i := range 81 {
		text, out := "", []byte{}
		for j, k := range []int{i % 3, i / 3 % 3, i / 9 % 3, i / 27} {
			b := probe.Noise(uint32(i), j*5)
			text = kinds[k](text, fmt.Sprint(j/3), b)
			out = append(out, b...)
		}
		wantText(t, text, out)
	}
}

// P4.1: up to and with the first block that is the last one, and no further: a
// byte that was begun counts, those behind it don't.
func TestWhatStandsBehindTheEnd(t *testing.T) {
	p := fixed()
	for n := range 20 {
		text := head(last, 1) + p.bytes(alikeBytes(200, n)) + p.end()
		begun := (3 + 9*n + 7 + 7) / 8
		for _, tail := range [][]byte{nil, {0}, {0xFF}, {7, 7, 7}, probe.Noise(5, 50)} {
			for _, fill := range []string{"0", "1"} {
				wantRaw(t, append(pack(text, fill), tail...), n, alikeBytes(200, n), begun)
			}
		}
	}
}

func alikeBytes(x byte, n int) []byte { return bytes.Repeat([]byte{x}, n) }

// P4.1: no last block: what stands behind is wanted.
func TestNoLastBlock(t *testing.T) {
	p := fixed()
	wantEndFault(t, nothing(), plenty, api.ErrEnd)
	wantEndFault(t, head(further, 1)+p.bytes([]byte("abc"))+p.end(), plenty, api.ErrEnd)
	wantFault(t, pack(stored("", further, "0", []byte("abc")), "0"), plenty, api.ErrEnd)
	many := strings.Repeat(head(further, 1)+p.end(), 4000)
	wantFault(t, pack(many, "0"), plenty, api.ErrEnd)
	wantText(t, many+head(last, 1)+p.literal('z')+p.end(), []byte("z"))
}
