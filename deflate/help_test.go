package deflate_test

import (
	"bytes"
	"compress/flate"
	"io"
	"slices"
	"strings"
	"testing"

	"darkroom/api"
	"darkroom/deflate"
	"darkroom/inflate"
	"darkroom/probe"
)

// again answers a text in which the string s stands twice, the second time just
// distance bytes behind where it stood first.
func again(seed uint32, s []byte, distance int) []byte {
	between := probe.Noise(seed, max(distance-len(s), 0))
	b := slices.Concat(s, between)[:distance]
	for i := range len(s) {
		b = append(b, b[i])
	}
	return append(b, probe.Noise(seed+1, 20)...)
}

// skewed answers a text in whose second part of 65535 bytes single bytes stand
// between matches, and come as often as counts say, the byte 0 first. If there
// are but a few counts, nothing else is packed there: no match is longer than
// three bytes, none begins with a single one.
func skewed(counts []int) []byte {
	var singles []byte
	for x, n := range counts {
		singles = append(singles, probe.Alike(byte(x), n)...)
	}
	mix(singles)
	b := probe.NoneAgain(65535)
	source := b[len(b)-4*len(singles):]
	for i, x := range singles {
		b = append(append(b, source[4*i:4*i+3]...), x)
	}
	return b
}

// mix puts bytes into another order, the same each time.
func mix(b []byte) {
	s := uint32(1)
	for i := range b {
		s = s*1664525 + 1013904223
		j := int(s>>8) % (i + 1)
		b[i], b[j] = b[j], b[i]
	}
}

// rising answers counts that, with the 1 of a block's end, want a code as deep
// as can be: each is what the two ahead of it are together.
func rising(n int) []int {
	counts := []int{1, 2}
	for len(counts) < n {
		counts = append(counts, counts[len(counts)-1]+counts[len(counts)-2])
	}
	return counts[:n]
}

// longTexts are longer than a stored block may be.
func longTexts() []probe.Text {
	stripes := make([]byte, 70000)
	for i := range stripes {
		stripes[i] = byte(i / 300)
	}
	return []probe.Text{
		{Name: "long words", B: []byte(strings.Repeat("a line of a text that is told again, ", 4000))},
		{Name: "long noise", B: probe.Noise(4, 140000)},
		{Name: "long few letters", B: probe.Few(5, 150000, 20)},
		{Name: "long none again", B: probe.NoneAgain(65536)},
		{Name: "stripes", B: stripes},
		{Name: "noise again", B: slices.Concat(probe.Noise(6, 65535), probe.Noise(6, 65535), probe.Noise(7, 100))},
		{Name: "noise and alike by turns", B: slices.Concat(probe.Noise(8, 65535), probe.Alike(3, 65535), probe.Noise(9, 65535), probe.Alike(4, 65535), probe.Noise(8, 65535))},
		{Name: "few letters and noise by turns", B: slices.Concat(probe.Few(1, 65535, 3), probe.Noise(1, 65535), probe.Few(2, 65535, 7), probe.Noise(2, 65535))},
		{Name: "skewed", B: skewed(rising(17))},
		{Name: "all skewed", B: slices.Repeat(skewed(rising(17)), 2)},
	}
}

// raw answers a stream of b, which it asks to be read as b by three readers, to
// be of the kinds that the level allows, and to keep the bound.
func raw(t *testing.T, b []byte, level int) []byte {
	t.Helper()
	x, e := deflate.Raw(b, level)
	if e != api.OK {
		t.Fatalf("Raw(%s, %d): %d", probe.Short(b), level, e)
	}
	if y, begun, e := inflate.Raw(x, len(b)); !bytes.Equal(y, b) || begun != len(x) || e != api.OK {
		t.Fatalf("Raw(%s, %d) = %s is read as %s, %d, %d", probe.Short(b), level, probe.Short(x), probe.Short(y), begun, e)
	}
	w := walked(t, x)
	if !bytes.Equal(w.out, b) {
		t.Fatalf("Raw(%s, %d) = %s writes %s", probe.Short(b), level, probe.Short(x), probe.Short(w.out))
	}
	if slices.Max(w.kinds) > level {
		t.Fatalf("Raw(%s, %d) has blocks of the kinds %v", probe.Short(b), level, w.kinds)
	}
	if y, err := io.ReadAll(flate.NewReader(bytes.NewReader(x))); !bytes.Equal(y, b) || err != nil {
		t.Fatalf("Raw(%s, %d) = %s is read by the library as %s, %v", probe.Short(b), level, probe.Short(x), probe.Short(y), err)
	}
	if most := len(b) + 5*(len(b)/65535) + 5; len(x) > most {
		t.Fatalf("Raw(%s, %d) takes %d; want at most %d", probe.Short(b), level, len(x), most)
	}
	return x
}

// wantRaw asks it of all levels.
func wantRaw(t *testing.T, b []byte) {
	t.Helper()
	for level := range 3 {
		raw(t, b, level)
	}
}
