package chunk_test

import (
	"bytes"
	"encoding/binary"
	"hash/crc32"
	"slices"
	"testing"

	"darkroom/api"
	"darkroom/chunk"
	"darkroom/probe"
)

// marked is what a file begins with.
func marked() []byte { return []byte{137, 80, 78, 71, 13, 10, 26, 10} }

// whole answers a chunk as it stands in a file, of any type, with its right sum.
func whole(typ string, data []byte) []byte {
	b := binary.BigEndian.AppendUint32(nil, uint32(len(data)))
	b = slices.Concat(b, []byte(typ), data)
	return binary.BigEndian.AppendUint32(b, crc32.ChecksumIEEE(b[4:]))
}

// file answers what these chunks are as a file, whether they may be or not.
func file(cs []api.Chunk) []byte {
	b := marked()
	for _, c := range cs {
		b = append(b, whole(c.Type, c.Data)...)
	}
	return b
}

// ended answers chunks with the end behind them.
func ended(cs ...api.Chunk) []api.Chunk {
	return append(slices.Clone(cs), api.Chunk{Type: "IEND"})
}

// lists are chunks that may be a file, from the end alone to many, with data of
// many lengths.
func lists() [][]api.Chunk {
	all := [][]api.Chunk{
		ended(),
		{{Type: "IEND", Data: []byte{1, 2, 3}}},
		ended(api.Chunk{Type: "IDAT", Data: []byte{1, 2}}),
		ended(api.Chunk{Type: "IDAT"}),
		ended(api.Chunk{Type: "azAZ", Data: []byte{0}}, api.Chunk{Type: "ZAza", Data: []byte{255}}, api.Chunk{Type: "azAZ"}),
		ended(api.Chunk{Type: "iEND"}, api.Chunk{Type: "IENd"}, api.Chunk{Type: "IDNE"}, api.Chunk{Type: "iend"}),
		// Data that are a chunk, and a file, themselves.
		ended(api.Chunk{Type: "IDAT", Data: whole("IEND", nil)}, api.Chunk{Type: "IDAT", Data: file(ended())}),
		ended(slices.Repeat([]api.Chunk{{Type: "abcd", Data: []byte{7}}}, 1000)...),
	}
	for i, n := range []int{1, 4, 11, 12, 13, 255, 256, 257, 65535, 65536, 70000, 1<<24 + 3} {
		all = append(all, ended(api.Chunk{Type: "tEXt", Data: probe.Noise(uint32(i), n)}, api.Chunk{Type: "IDAT", Data: probe.Alike(byte(i), n%1000)}))
	}
	return all
}

// sameChunks tells whether chunks are alike; no data and nil are one.
func sameChunks(a, b []api.Chunk) bool {
	return slices.EqualFunc(a, b, func(x, y api.Chunk) bool { return x.Type == y.Type && bytes.Equal(x.Data, y.Data) })
}

// wantSplit wants these chunks out of a file.
func wantSplit(t *testing.T, b []byte, want []api.Chunk) {
	cs, e := chunk.Split(b)
	if e != api.OK || !sameChunks(cs, want) {
		t.Helper()
		t.Fatalf("Split(%s) = %s, %d; want %s", probe.Short(b), told(cs), e, told(want))
	}
}

// wantBroken wants a file to be malformed.
func wantBroken(t *testing.T, b []byte) {
	cs, e := chunk.Split(b)
	if e != api.ErrMalformed || len(cs) != 0 {
		t.Helper()
		t.Fatalf("Split(%s) = %s, %d; want none, %d", probe.Short(b), told(cs), e, api.ErrMalformed)
	}
}

// wantJoin wants chunks to be a file.
func wantJoin(t *testing.T, cs []api.Chunk, want []byte) {
	b, e := chunk.Join(cs)
	if e != api.OK || !bytes.Equal(b, want) {
		t.Helper()
		t.Fatalf("Join(%s) = %s, %d; want %s", told(cs), probe.Short(b), e, probe.Short(want))
	}
}

// wantNoJoin wants chunks not to be a file.
func wantNoJoin(t *testing.T, cs []api.Chunk) {
	b, e := chunk.Join(cs)
	if e != api.ErrArgs || len(b) != 0 {
		t.Helper()
		t.Fatalf("Join(%s) = %s, %d; want none, %d", told(cs), probe.Short(b), e, api.ErrArgs)
	}
}

// told tells chunks, but not all of many.
func told(cs []api.Chunk) string {
	var s string
	for _, c := range cs[:min(len(cs), 9)] {
		s += "[" + c.Type + " " + probe.Short(c.Data) + "]"
	}
	return s
}

// wantFilter wants rows to be filtered like this, and to come back.
func wantFilter(t *testing.T, rows []byte, width, bpp, kind int, want []byte) {
	b, e := chunk.Filter(rows, width, bpp, kind)
	if e != api.OK || !bytes.Equal(b, want) {
		t.Helper()
		t.Fatalf("Filter(%s, %d, %d, %d) = %s, %d; want %s", probe.Short(rows), width, bpp, kind, probe.Short(b), e, probe.Short(want))
	}
	wantUnfilter(t, want, width, bpp, rows)
}

// wantUnfilter wants rows to come back.
func wantUnfilter(t *testing.T, b []byte, width, bpp int, want []byte) {
	rows, e := chunk.Unfilter(b, width, bpp)
	if e != api.OK || !bytes.Equal(rows, want) {
		t.Helper()
		t.Fatalf("Unfilter(%s, %d, %d) = %s, %d; want %s", probe.Short(b), width, bpp, probe.Short(rows), e, probe.Short(want))
	}
}

// wantFilterFault wants rows not to be filtered.
func wantFilterFault(t *testing.T, rows []byte, width, bpp, kind int) {
	b, e := chunk.Filter(rows, width, bpp, kind)
	if e != api.ErrArgs || len(b) != 0 {
		t.Helper()
		t.Fatalf("Filter(%s, %d, %d, %d) = %s, %d; want none, %d", probe.Short(rows), width, bpp, kind, probe.Short(b), e, api.ErrArgs)
	}
}

// wantUnfilterFault wants an error of what was filtered, and nothing beside it.
func wantUnfilterFault(t *testing.T, b []byte, width, bpp int, want api.Errno) {
	rows, e := chunk.Unfilter(b, width, bpp)
	if e != want || len(rows) != 0 {
		t.Helper()
		t.Fatalf("Unfilter(%s, %d, %d) = %s, %d; want none, %d", probe.Short(b), width, bpp, probe.Short(rows), e, want)
	}
}
