package deflate_test

import (
	"slices"
	"testing"

	"darkroom/api"
	"darkroom/bits"
	"darkroom/prefix"
	"darkroom/probe"
)

// What stands here goes through a stream block by block, as chapter 4 tells its
// form, to see of which kinds the blocks are and what they write.

type walk struct {
	t     *testing.T
	in    *bits.Reader
	kinds []int
	out   []byte
}

// walked fails where b isn't a stream that ends with its last byte.
func walked(t *testing.T, b []byte) *walk {
	t.Helper()
	w := &walk{t: t, in: bits.NewReader(b, false)}
	for last := 0; last == 0; {
		last = w.take(1)
		kind := w.take(2)
		w.kinds = append(w.kinds, kind)
		switch kind {
		case 0:
			w.stored()
		case 1:
			w.symbols(
				slices.Concat(slices.Repeat([]int{8}, 144), slices.Repeat([]int{9}, 112), slices.Repeat([]int{7}, 24), slices.Repeat([]int{8}, 8)),
				slices.Repeat([]int{5}, 30))
		case 2:
			w.symbols(w.table())
		default:
			t.Fatalf("a block of kind %d: %s", kind, probe.Short(b))
		}
	}
	if w.in.Left() > 7 {
		t.Fatalf("%d bits behind the last block: %s", w.in.Left(), probe.Short(b))
	}
	return w
}

func (w *walk) take(n int) int {
	v, e := w.in.Take(n)
	if e != api.OK {
		w.t.Fatalf("Take(%d) at %d: %d", n, w.in.Place(), e)
	}
	return int(v)
}

func (w *walk) next(d *prefix.Decoder) int {
	symbol, e := d.Next(w.in)
	if e != api.OK {
		w.t.Fatalf("no symbol at %d: %d", w.in.Place(), e)
	}
	return symbol
}

func (w *walk) decoder(lengths []int) *prefix.Decoder {
	d, e := prefix.New(lengths)
	if e != api.OK {
		w.t.Fatalf("no code at %d: %d, %v", w.in.Place(), e, lengths)
	}
	return d
}

func (w *walk) stored() {
	w.in.Align()
	n := w.take(16)
	if other := w.take(16); n+other != 65535 {
		w.t.Fatalf("a stored block of %d, %d", n, other)
	}
	b, e := w.in.Bytes(n)
	if e != api.OK {
		w.t.Fatalf("no %d bytes at %d: %d", n, w.in.Place(), e)
	}
	w.out = append(w.out, b...)
}

func (w *walk) table() (literals, distances []int) {
	nl, nd, nc := w.take(5)+257, w.take(5)+1, w.take(4)+4
	code := make([]int, 19)
	for _, symbol := range []int{16, 17, 18, 0, 8, 7, 9, 6, 10, 5, 11, 4, 12, 3, 13, 2, 14, 1, 15}[:nc] {
		code[symbol] = w.take(3)
	}
	d := w.decoder(code)
	var row []int
	for len(row) < nl+nd {
		symbol := w.next(d)
		switch {
		case symbol < 16:
			row = append(row, symbol)
		case symbol == 16:
			row = append(row, slices.Repeat(row[len(row)-1:], 3+w.take(2))...)
		case symbol == 17:
			row = append(row, make([]int, 3+w.take(3))...)
		default:
			row = append(row, make([]int, 11+w.take(7))...)
		}
	}
	if len(row) != nl+nd || nl > 286 || nd > 30 {
		w.t.Fatalf("%d lengths of codes; want %d and %d", len(row), nl, nd)
	}
	return row[:nl], row[nl:]
}

// stepped reads the bits behind the symbol at place k of lengths or distances.
func (w *walk) stepped(k, group int) int {
	least := 0
	for i := range k {
		least += 1 << max(i/group-1, 0)
	}
	return least + w.take(max(k/group-1, 0))
}

func (w *walk) symbols(literals, distances []int) {
	l, d := w.decoder(literals), w.decoder(distances)
	for {
		symbol := w.next(l)
		switch {
		case symbol == 256:
			return
		case symbol < 256:
			w.out = append(w.out, byte(symbol))
			continue
		case symbol > 285:
			w.t.Fatalf("a literal %d", symbol)
		}
		length := 258
		if symbol < 285 {
			length = 3 + w.stepped(symbol-257, 4)
		}
		distance := 1 + w.stepped(w.next(d), 2)
		if distance > len(w.out) || distance > 32768 {
			w.t.Fatalf("a match from %d ahead of %d", distance, len(w.out))
		}
		for range length {
			w.out = append(w.out, w.out[len(w.out)-distance])
		}
	}
}
