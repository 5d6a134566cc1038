package inflate

import (
	"darkroom/api"
	"darkroom/prefix"
)

// codes are those that a block's symbols are packed by.
type codes struct {
	literals, distances *prefix.Decoder
}

// fixedCodes answers the codes that a stream needn't tell.
func (s *stream) fixedCodes() codes {
	if s.fixed == nil {
		s.fixed = &codes{decoderOf(fixedLiterals()), decoderOf(fixedDistances())}
	}
	return *s.fixed
}

func fixedLiterals() []int {
	lengths := make([]int, 288)
	for symbol := range lengths {
		switch {
		case symbol <= 143:
			lengths[symbol] = 8
		case symbol <= 255:
			lengths[symbol] = 9
		case symbol <= 279:
			lengths[symbol] = 7
		default:
			lengths[symbol] = 8
		}
	}
	return lengths
}

func fixedDistances() []int {
	lengths := make([]int, maxDistances)
	for symbol := range lengths {
		lengths[symbol] = 5
	}
	return lengths
}

// How many symbols a code that is told has at least, and at most. The five bits
// that tell how many could tell more than there are.
const (
	minLiterals  = 257
	maxLiterals  = 286
	minDistances = 1
	maxDistances = 30
	minLengths   = 4
)

// toldCodes reads the codes at a block's beginning.
func (s *stream) toldCodes() codes {
	literals := minLiterals + s.take(5)
	distances := minDistances + s.take(5)
	lengths := minLengths + s.take(4)
	if literals > maxLiterals || distances > maxDistances {
		panic(api.ErrTable)
	}
	row := s.row(s.lengthsCode(lengths), literals+distances)
	if row[endOfBlock] == 0 {
		panic(api.ErrTable)
	}
	return codes{
		literals:  goodDecoder(row[:literals], false),
		distances: goodDecoder(row[literals:], true),
	}
}

// lengthsOrder has those symbols of the lengths' code last that are seldom
// wanted, so that the stream may leave them out.
var lengthsOrder = [19]int{16, 17, 18, 0, 8, 7, 9, 6, 10, 5, 11, 4, 12, 3, 13, 2, 14, 1, 15}

// lengthsCode reads the code, of n symbols, by which the other codes' lengths
// are packed.
func (s *stream) lengthsCode(n int) *prefix.Decoder {
	lengths := make([]int, len(lengthsOrder))
	for i := range n {
		lengths[lengthsOrder[i]] = s.take(3)
	}
	return goodDecoder(lengths, false)
}

// row reads n lengths of codes. It knows of no border between the literals and
// the distances: a repetition may run over it.
func (s *stream) row(d *prefix.Decoder, n int) []int {
	row := make([]int, 0, n)
	for len(row) < n {
		length, times := s.run(s.next(d), row)
		if times > n-len(row) {
			panic(api.ErrTable)
		}
		for range times {
			row = append(row, length)
		}
	}
	return row
}

// run answers the length that a symbol stands for behind this row, and how
// often.
func (s *stream) run(symbol int, row []int) (length, times int) {
	switch symbol {
	case 16:
		if len(row) == 0 {
			panic(api.ErrTable)
		}
		return row[len(row)-1], 3 + s.take(2)
	case 17:
		return 0, 3 + s.take(3)
	case 18:
		return 0, 11 + s.take(7)
	}
	return symbol, 1
}

// goodDecoder gives up at a code that a stream may not tell.
func goodDecoder(lengths []int, noneToo bool) *prefix.Decoder {
	if !mayBe(lengths, noneToo) {
		panic(api.ErrTable)
	}
	return decoderOf(lengths)
}

// mayBe asks for a full code, or, as nothing else would tell of a lone symbol,
// for one of length 1; with noneToo also for no symbol at all.
func mayBe(lengths []int, noneToo bool) bool {
	room, e := prefix.Room(lengths)
	must(e)
	// No length is below nought: all of them make 1 just where one alone is 1.
	all := 0
	for _, n := range lengths {
		all += n
	}
	return room == 0 || all == 1 || all == 0 && noneToo
}

func decoderOf(lengths []int) *prefix.Decoder {
	d, e := prefix.New(lengths)
	must(e)
	return d
}
