package inflate

import (
	"darkroom/api"
	"darkroom/blocks"
	"darkroom/prefix"
)

// codes are those that a block's symbols are packed by.
type codes struct {
	literals, distances *prefix.Decoder
}

// fixedCodes answers the codes that a stream needn't tell.
func (s *stream) fixedCodes() codes {
	if s.fixed == nil {
		s.fixed = &codes{decoderOf(blocks.FixedLiterals()), decoderOf(blocks.FixedDistances())}
	}
	return *s.fixed
}

// toldCodes reads the codes at a block's beginning.
func (s *stream) toldCodes() codes {
	literals := blocks.MinLiterals + s.take(5)
	distances := blocks.MinDistances + s.take(5)
	lengths := blocks.MinLengths + s.take(4)
	// The five bits could tell of more symbols than there are.
	if literals > blocks.Literals || distances > blocks.Distances {
		panic(api.ErrTable)
	}
	row := s.row(s.lengthsCode(lengths), literals+distances)
	if row[blocks.End] == 0 {
		panic(api.ErrTable)
	}
	return codes{
		literals:  goodDecoder(row[:literals], false),
		distances: goodDecoder(row[literals:], true),
	}
}

// lengthsCode reads the code, of n symbols, by which the other codes' lengths
// are packed.
func (s *stream) lengthsCode(n int) *prefix.Decoder {
	lengths := make([]int, blocks.Lengths)
	order := blocks.LengthsOrder()
	for _, symbol := range order[:n] {
		lengths[symbol] = s.take(3)
	}
	return goodDecoder(lengths, false)
}

// row reads n lengths of codes. It knows of no border between the literals and
// the distances: a repetition may run over it.
func (s *stream) row(d *prefix.Decoder, n int) []int {
	row := make([]int, 0, n)
	for len(row) < n {
		length, times := s.run(s.next(d), row)
		if times > n-len(row) {
			panic(api.ErrTable)
		}
		for range times {
			row = append(row, length)
		}
	}
	return row
}

// run answers the length that a symbol stands for behind this row, and how
// often.
func (s *stream) run(symbol int, row []int) (length, times int) {
	if symbol == blocks.Again && len(row) == 0 {
		panic(api.ErrTable)
	}
	least, more := blocks.Repeats(symbol)
	times = least + s.take(more)
	switch symbol {
	case blocks.Again:
		return row[len(row)-1], times
	case blocks.FewNoughts, blocks.ManyNoughts:
		return 0, times
	}
	return symbol, times
}

// goodDecoder gives up at a code that a stream may not tell.
func goodDecoder(lengths []int, noneToo bool) *prefix.Decoder {
	if !mayBe(lengths, noneToo) {
		panic(api.ErrTable)
	}
	return decoderOf(lengths)
}

// mayBe asks for a full code, or, as nothing else would tell of a lone symbol,
// for one of length 1; with noneToo also for no symbol at all.
func mayBe(lengths []int, noneToo bool) bool {
	room, e := prefix.Room(lengths)
	must(e)
	// No length is below nought: all of them make 1 just where one alone is 1.
	all := 0
	for _, n := range lengths {
		all += n
	}
	return room == 0 || all == 1 || all == 0 && noneToo
}

func decoderOf(lengths []int) *prefix.Decoder {
	d, e := prefix.New(lengths)
	must(e)
	return d
}
