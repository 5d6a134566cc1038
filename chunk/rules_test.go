package chunk_test

import (
	"bytes"
	"math"
	"slices"
	"testing"

	"darkroom/api"
	"darkroom/chunk"
	"darkroom/probe"
)

// R3: nil and an empty list are one.
func TestNilIsEmpty(t *testing.T) {
	for _, b := range [][]byte{nil, {}, make([]byte, 0, 100)} {
		wantBroken(t, b)
		wantFilter(t, b, 2, 1, 4, nil)
		wantUnfilter(t, b, 2, 1, nil)
		cs := []api.Chunk{{Type: "IDAT", Data: b}, {Type: "IEND", Data: b}}
		wantJoin(t, cs, file(ended(api.Chunk{Type: "IDAT"})))
	}
	for _, cs := range [][]api.Chunk{nil, {}, make([]api.Chunk, 0, 9)} {
		wantNoJoin(t, cs)
	}
}

// flat answers chunks as bytes.
func flat(cs []api.Chunk) []byte {
	var b []byte
	for _, c := range cs {
		b = slices.Concat(b, []byte(c.Type), []byte{0, byte(len(c.Data))}, c.Data)
	}
	return b
}

// R2, R4: bytes that are handed in stay, spare room included, and aren't read
// there nor kept; what is answered is new memory, spare room included.
func TestKeepsAndSharesNothing(t *testing.T) {
	rows := probe.Noise(1, 60)
	for width := 1; width < 7; width++ {
		for kind := -1; kind <= kinds; kind++ {
			if s := probe.Kept(rows, func(b []byte) ([]byte, api.Errno) { return chunk.Filter(b, width, 2, kind) }); s != "" {
				t.Errorf("Filter, %d, %d: %s", width, kind, s)
			}
			if b, e := chunk.Filter(rows, 5, 2, kind); e == api.OK {
				for _, n := range []int{len(b), len(b) - 1, len(b) - 6} {
					if s := probe.Kept(b[:n], func(b []byte) ([]byte, api.Errno) { return chunk.Unfilter(b, width, 2) }); s != "" {
						t.Errorf("Unfilter, %d, %d: %s", width, kind, s)
					}
				}
			}
		}
	}
	data := probe.Noise(2, 30)
	for _, typ := range []string{"IDAT", "IEND", "", "ID9T"} {
		if s := probe.Kept(data, func(b []byte) ([]byte, api.Errno) { return chunk.Join(ended(api.Chunk{Type: typ, Data: b})) }); s != "" {
			t.Error("Join,", typ, s)
		}
	}
	for _, cs := range lists()[:7] {
		b := file(cs)
		for n := range len(b) + 1 {
			for i := range len(cs) {
				if s := probe.Kept(b[:n], func(b []byte) ([]byte, api.Errno) {
					list, e := chunk.Split(b)
					if len(list) != len(cs) {
						return nil, e
					}
					return list[i].Data, e
				}); s != "" {
					t.Errorf("Split(%s), chunk %d: %s", probe.Short(b[:n]), i, s)
				}
			}
		}
	}
}

// R4: chunks that are handed in stay, and what is answered shares no memory with
// them, nor with another answer, nor do two lists of one answer.
func TestAnswersAreNew(t *testing.T) {
	cs := ended(api.Chunk{Type: "IHDR", Data: []byte{1, 2, 3}}, api.Chunk{Type: "IDAT", Data: []byte{4, 5}}, api.Chunk{Type: "IDAT"})
	roomy := append(make([]api.Chunk, 0, 20), cs...)
	b, _ := chunk.Join(roomy)
	if !sameChunks(roomy, cs) || len(flat(roomy[len(cs):cap(roomy)])) != 2*(20-len(cs)) {
		t.Error("Join changes what is handed in")
	}
	want := bytes.Clone(b)
	one, _ := chunk.Split(b)
	two, _ := chunk.Split(b)
	for i := range one {
		probe.Spoil(one[i].Data)
		for k := range one {
			if k > i && !bytes.Equal(one[k].Data, cs[k].Data) {
				t.Error("two lists of one answer share memory:", i, k)
			}
		}
	}
	clear(one[:cap(one)])
	probe.Spoil(b)
	if again, _ := chunk.Join(cs); !sameChunks(two, cs) || !bytes.Equal(again, want) {
		t.Error("answers share memory")
	}
	first, second := chunk.Passes(9, 9), chunk.Passes(9, 9)
	clear(first[:cap(first)])
	if third := chunk.Passes(9, 9); !slices.Equal(second, plainPasses(9, 9)) || !slices.Equal(third, second) {
		t.Error("passes share memory")
	}
}

// R5, R6: the same call answers the same, whatever was asked ahead of it and is
// asked beside it.
func TestSameAnswers(t *testing.T) {
	t.Parallel()
	all := lists()[:14]
	if s := probe.Steady(4*len(all), func(i int) ([]byte, api.Errno) {
		cs := all[i/4]
		switch i % 4 {
		case 0:
			return chunk.Join(cs[i/4%2:])
		case 1:
			list, e := chunk.Split(file(cs)[:len(file(cs))-i/4%2])
			return flat(list), e
		case 2:
			return chunk.Filter(flat(cs), 1+i/4%2, 1+i%8, i%kinds)
		}
		return chunk.Unfilter(flat(cs), 1+i/4%2, 1+i%8)
	}); s != "" {
		t.Error(s)
	}
}

// R1: no call panics or goes on for ever, whatever it is given.
func TestNoPanic(t *testing.T) {
	numbers := append(probe.Far(), -1, 0, 1, 2, 8, 9, mostWidth)
	b := probe.Noise(1, 100)
	for _, n := range numbers {
		for _, k := range numbers {
			_ = chunk.Passes(n, k)
			for _, j := range []int{math.MinInt, -1, 0, 4, 5, math.MaxInt} {
				_, _ = chunk.Filter(b, n, k, j)
			}
			_, _ = chunk.Unfilter(b, n, k)
			_, _ = chunk.Unfilter(nil, n, k)
		}
	}
	for seed := range uint32(3000) {
		b := append(marked(), probe.Noise(seed, 100)...)
		clear(b[8 : 8+seed%5])
		_, _ = chunk.Split(b)
		_, _ = chunk.Unfilter(b[8:], 1+int(seed)%30, 1+int(seed)%8)
	}
}
