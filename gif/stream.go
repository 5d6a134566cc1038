package gif

import (
	"iter"
	"slices"

	"darkroom/api"
	"darkroom/bits"
)

// A stream is what is left to read of a file. Its methods give up by a panic with
// the error's number, however deep in a block they are.
type stream struct {
	in *bits.Reader
}

func newStream(b []byte) *stream { return &stream{bits.NewReader(b, false)} }

// must gives up, if a file isn't of the form.
func must(ok bool) {
	if !ok {
		panic(api.ErrMalformed)
	}
}

// number answers the number that the next bytes are, the lowest one first.
func (s *stream) number(bytes int) int {
	v, e := s.in.Take(8 * bytes)
	must(e == api.OK)
	return int(v)
}

// bytes answers the next n bytes.
func (s *stream) bytes(n int) []byte {
	b, e := s.in.Bytes(n)
	must(e == api.OK)
	return b
}

// blocks gives the bytes of each sub-block, and goes behind the last one.
func (s *stream) blocks() iter.Seq[[]byte] {
	return func(yield func([]byte) bool) {
		for n := s.number(1); n > 0; n = s.number(1) {
			if !yield(s.bytes(n)) {
				return
			}
		}
	}
}

// palette answers a palette's colours, none if the flags tell of no palette.
func (s *stream) palette(flags int) []api.Color {
	if flags&hasPalette == 0 {
		return nil
	}
	var list []api.Color
	for entry := range slices.Chunk(s.bytes(entrySize*entries(flags%8)), entrySize) {
		list = append(list, colorOf(entry))
	}
	return list
}
