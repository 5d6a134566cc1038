package chunk_test

import (
	"bytes"
	"encoding/binary"
	"hash/crc32"
	"slices"
	"testing"

	"darkroom/api"
	"darkroom/chunk"
	"darkroom/probe"
)

// P12.1: a file told byte by byte.
func TestSplitKnown(t *testing.T) {
	b := []byte{
		137, 80, 78, 71, 13, 10, 26, 10,
		0, 0, 0, 13, 'I', 'H', 'D', 'R', 0, 0, 0, 1, 0, 0, 0, 1, 8, 6, 0, 0, 0, 0x1F, 0x15, 0xC4, 0x89,
		0, 0, 0, 1, 'I', 'D', 'A', 'T', 'x', 0x76, 0xE6, 0x84, 0xE6,
		0, 0, 0, 0, 'I', 'E', 'N', 'D', 0xAE, 0x42, 0x60, 0x82,
	}
	want := ended(api.Chunk{Type: "IHDR", Data: []byte{0, 0, 0, 1, 0, 0, 0, 1, 8, 6, 0, 0, 0}}, api.Chunk{Type: "IDAT", Data: []byte("x")})
	wantSplit(t, b, want)
	wantJoin(t, want, b)
}

// P12.1: chunks of all lengths and types come out as they are.
func TestSplit(t *testing.T) {
	for _, cs := range lists() {
		wantSplit(t, file(cs), cs)
	}
}

// P12.1: what stands behind the first end isn't looked at.
func TestBehindTheEnd(t *testing.T) {
	for _, cs := range lists()[:8] {
		b := file(cs)
		for _, behind := range [][]byte{{0}, {255}, marked(), whole("IEND", []byte{1}), whole("IDAT", nil), probe.Noise(1, 99), whole("1234", nil), make([]byte, 12)} {
			wantSplit(t, slices.Concat(b, behind), cs)
		}
	}
}

// P12.1: the eight bytes ahead of all chunks are just these.
func TestMark(t *testing.T) {
	b := file(ended())
	for i := range 8 {
		for x := range 256 {
			if c := slices.Clone(b); c[i] != byte(x) {
				c[i] = byte(x)
				wantBroken(t, c)
			}
		}
		wantBroken(t, b[:i])
		wantBroken(t, b[i+1:])
		wantBroken(t, slices.Delete(slices.Clone(b), i, i+1))
		wantBroken(t, slices.Insert(slices.Clone(b), i, b[i]^1))
	}
	wantBroken(t, marked())
	wantBroken(t, append(marked(), b...))
}

// P12.1: whatever byte of a chunk is another one, it's found; so is a cut at any
// place, a byte too many or one too few.
func TestBroken(t *testing.T) {
	for _, cs := range [][]api.Chunk{lists()[0], lists()[1], lists()[2], lists()[4], lists()[6]} {
		b := file(cs)
		for i := range b {
			for x := 1; x < 256; x++ {
				c := slices.Clone(b)
				c[i] ^= byte(x)
				wantBroken(t, c)
			}
			wantBroken(t, b[:i])
			wantBroken(t, slices.Delete(slices.Clone(b), i, i+1))
			for _, x := range []byte{0, 1, b[i] + 1, 255} {
				if x != b[i] {
					wantBroken(t, slices.Insert(slices.Clone(b), i, x))
				}
			}
		}
	}
}

// P12.1: without an end it isn't a file, however good the chunks are.
func TestNoEnd(t *testing.T) {
	for _, cs := range lists() {
		wantBroken(t, file(cs[:len(cs)-1]))
		wantBroken(t, append(file(cs[:len(cs)-1]), make([]byte, 12)...))
		for _, typ := range []string{"IENd", "iEND", "DNEI", "IDAT"} {
			wantBroken(t, file(append(slices.Clone(cs[:len(cs)-1]), api.Chunk{Type: typ})))
		}
	}
}

// isLetter is what a type is made of.
func isLetter(x int) bool {
	return bytes.ContainsRune([]byte("ABCDEFGHIJKLMNOPQRSTUVWXYZabcdefghijklmnopqrstuvwxyz"), rune(x))
}

// P12.1, P12.2: a type is letters, at each of its places, whatever the sum says.
func TestTypes(t *testing.T) {
	met := 0
	for i := range 4 {
		for x := range 256 {
			typ := []byte("bKGD")
			typ[i] = byte(x)
			for _, cs := range [][]api.Chunk{
				ended(api.Chunk{Type: string(typ), Data: []byte{9}}),
				ended(api.Chunk{Type: "IHDR"}, api.Chunk{Type: string(typ)}, api.Chunk{Type: "IDAT"}),
			} {
				if x < 128 && isLetter(x) {
					met++
					wantSplit(t, file(cs), cs)
					wantJoin(t, cs, file(cs))
				} else {
					wantBroken(t, file(cs))
					wantNoJoin(t, cs)
				}
			}
		}
	}
	if met != 4*2*52 {
		t.Error("types that may be:", met)
	}
}

// P12.1: a length that is more than there is, and one of 2^31 or more, with the
// sum of what there is.
func TestLengths(t *testing.T) {
	for _, n := range []int{0, 1, 5, 300} {
		data := probe.Noise(1, n)
		good := slices.Concat(marked(), whole("IDAT", data), whole("IEND", nil))
		wantSplit(t, good, ended(api.Chunk{Type: "IDAT", Data: data}))
		for _, length := range []uint32{
			uint32(n) + 1, uint32(n) + 4, uint32(n) + 12, uint32(n) + 13, 1 << 16, 1 << 24, 1<<31 - 1, 1 << 31, 1<<31 + uint32(n), 1<<32 - 12, 1<<32 - 8, 1<<32 - 4, 1<<32 - 1,
		} {
			b := slices.Clone(good)
			binary.BigEndian.PutUint32(b[8:], length)
			wantBroken(t, b)
			wantBroken(t, append(b, make([]byte, 1000)...))
		}
		for k := range n {
			b := slices.Clone(good)
			binary.BigEndian.PutUint32(b[8:], uint32(k))
			wantBroken(t, b)
		}
	}
	// The first byte is the highest: such a length turned round is another one.
	b := slices.Concat(marked(), whole("IDAT", make([]byte, 256)), whole("IEND", nil))
	b[8], b[9], b[10], b[11] = b[11], b[10], b[9], b[8]
	wantBroken(t, b)
}

// P12.1: the sum is of type and data, of neither alone, nor with the length, and
// its first byte is the highest.
func TestSums(t *testing.T) {
	sum := crc32.ChecksumIEEE
	c := whole("IDAT", []byte{5, 6, 7})
	for _, wrong := range []uint32{
		sum(c[8:11]), sum(c[4:8]), sum(c[:11]), ^sum(c[4:11]), 0, sum(c[4:10]), sum(nil),
		crc32.Checksum(c[4:11], crc32.MakeTable(crc32.Castagnoli)), binary.LittleEndian.Uint32(c[11:]),
	} {
		b := slices.Concat(marked(), binary.BigEndian.AppendUint32(slices.Clone(c[:11]), wrong), whole("IEND", nil))
		wantBroken(t, b)
		b = slices.Concat(marked(), whole("IHDR", nil), binary.BigEndian.AppendUint32(slices.Clone(c[:11]), wrong), whole("IEND", nil))
		wantBroken(t, b)
	}
	wantSplit(t, slices.Concat(marked(), c, whole("IEND", nil)), ended(api.Chunk{Type: "IDAT", Data: []byte{5, 6, 7}}))
	end := whole("IEND", nil)
	for i := range 32 {
		b := slices.Concat(marked(), end)
		b[16+i/8] ^= 1 << (i % 8)
		wantBroken(t, b)
	}
}

// plainSplit reads a file as the chapter says it, byte by byte.
func plainSplit(b []byte) ([]api.Chunk, api.Errno) {
	if len(b) < 8 || string(b[:8]) != string(marked()) {
		return nil, api.ErrMalformed
	}
	var list []api.Chunk
	for at := 8; len(b)-at >= 12; {
		n := int(b[at])<<24 + int(b[at+1])<<16 + int(b[at+2])<<8 + int(b[at+3])
		if n >= 1<<31 || len(b)-at-12 < n {
			break
		}
		c := api.Chunk{Type: string(b[at+4 : at+8]), Data: b[at+8 : at+8+n]}
		ok := bytes.Equal(whole(c.Type, c.Data), b[at:at+12+n])
		for _, x := range []byte(c.Type) {
			ok = ok && x < 128 && isLetter(int(x))
		}
		if !ok {
			break
		}
		if list = append(list, c); c.Type == "IEND" {
			return list, api.OK
		}
		at += 12 + n
	}
	return nil, api.ErrMalformed
}

// P12.1: files with bytes changed, put in and taken out, and with chunks left out,
// told twice, or broken.
func TestSplitAsTold(t *testing.T) {
	met := map[int]int{}
	parts := [][]byte{
		whole("IEND", nil), whole("IEND", []byte{1}), whole("IDAT", []byte{1, 2}), whole("tEXt", nil), whole("abcd", probe.Noise(1, 20)), whole("IEN1", nil),
		whole("IDAT", nil)[1:], {0}, marked(), append([]byte{0x80}, whole("IDAT", nil)[1:]...),
	}
	for seed := range uint32(12000) {
		b := marked()
		for _, i := range probe.Few(seed, int(seed)%7, len(parts)) {
			b = append(b, parts[i]...)
		}
		if seed%3 == 0 {
			b = probe.Changed(b, []byte{0, 1, 'I', 255}, seed)
		}
		want, wantE := plainSplit(b)
		if wantE == api.OK {
			met[min(len(want), 3)]++
			wantSplit(t, b, want)
		} else {
			met[0]++
			wantBroken(t, b)
		}
	}
	for i := range 4 {
		if met[i] < 100 {
			t.Error("of some answers there are but few:", met)
		}
	}
}

// P12.5: capital letters are A to Z alone, and the first one counts.
func TestCritical(t *testing.T) {
	for x := range 256 {
		want := x >= 'A' && x <= 'Z'
		for _, behind := range []string{"", "DAT", "dat", "1", "IDATIDAT", "\x00"} {
			if typ := string([]byte{byte(x)}) + behind; chunk.Critical(typ) != want {
				t.Errorf("Critical(%q); want %v", typ, want)
			}
		}
	}
	for _, typ := range []string{"", "iDAT", "aIDAT", " IDAT", "\u00C4", "\u0391BC"} {
		if chunk.Critical(typ) {
			t.Errorf("Critical(%q)", typ)
		}
	}
}
