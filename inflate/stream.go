package inflate

import (
	"darkroom/api"
	"darkroom/bits"
	"darkroom/blocks"
	"darkroom/prefix"
)

// A stream is what is left to read and what was written so far. Its methods
// give up by a panic with the error's number, however deep in a block they are.
type stream struct {
	in    *bits.Reader
	out   []byte
	most  int
	fixed *codes // nil till a block asks for them: there may be many such blocks
}

// must gives up at an error of a layer below.
func must(e api.Errno) {
	if e != api.OK {
		panic(e)
	}
}

func (s *stream) take(n int) int {
	v, e := s.in.Take(n)
	must(e)
	return int(v)
}

func (s *stream) next(d *prefix.Decoder) int {
	symbol, e := d.Next(s.in)
	must(e)
	return symbol
}

// wantRoom gives up if n bytes more are more than there may be.
func (s *stream) wantRoom(n int) {
	if n > s.most-len(s.out) {
		panic(api.ErrLong)
	}
}

// block reads a block and answers whether it is the last one.
func (s *stream) block() bool {
	last := s.take(1) == 1
	switch s.take(2) {
	case blocks.Stored:
		s.stored()
	case blocks.Fixed:
		s.symbols(s.fixedCodes())
	case blocks.Told:
		s.symbols(s.toldCodes())
	default:
		panic(api.ErrBlock)
	}
	return last
}

// stored reads a block whose bytes stand as they are.
func (s *stream) stored() {
	s.in.Align()
	n := s.take(16)
	if s.take(16) != blocks.MaxStored-n {
		panic(api.ErrBlock)
	}
	// A block that is too long is told as that, also if its bytes aren't there.
	s.wantRoom(n)
	b, e := s.in.Bytes(n)
	must(e)
	s.out = append(s.out, b...)
}

// symbols reads what stands behind a block's head, if it is packed by codes.
func (s *stream) symbols(c codes) {
	for {
		symbol := s.next(c.literals)
		switch {
		case symbol < blocks.End:
			s.wantRoom(1)
			s.out = append(s.out, byte(symbol))
		case symbol == blocks.End:
			return
		default:
			length := s.length(symbol)
			s.repeat(length, s.distance(c.distances))
		}
	}
}

func (s *stream) length(symbol int) int {
	switch {
	case symbol > blocks.LastLength:
		panic(api.ErrCode)
	case symbol == blocks.LastLength:
		return blocks.MaxLength
	}
	return blocks.MinLength + s.stepped(symbol-blocks.FirstLength, blocks.LengthGroup)
}

// distance needs no look at 30 and 31: no code that may be read has them.
func (s *stream) distance(d *prefix.Decoder) int {
	return blocks.MinDistance + s.stepped(s.next(d), blocks.DistanceGroup)
}

// stepped answers what the symbol at place k stands for, above the least one of
// its kind.
func (s *stream) stepped(k, group int) int {
	least, more := blocks.Step(k, group)
	return least + s.take(more)
}

// repeat goes byte by byte: a match may run into what it writes itself.
func (s *stream) repeat(length, distance int) {
	if distance > len(s.out) {
		panic(api.ErrFar)
	}
	s.wantRoom(length)
	for range length {
		s.out = append(s.out, s.out[len(s.out)-distance])
	}
}
