package deflate

import (
	mathbits "math/bits"

	"darkroom/bits"
	"darkroom/blocks"
	"darkroom/prefix"
)

// A part is a symbol, with what the bits behind it say.
type part struct {
	symbol, rest, more int
}

func lengthPart(length int) part {
	if length == blocks.MaxLength {
		return part{symbol: blocks.LastLength}
	}
	return placed(blocks.FirstLength, length-blocks.MinLength, blocks.LengthGroup)
}

func distancePart(distance int) part {
	return placed(0, distance-blocks.MinDistance, blocks.DistanceGroup)
}

func placed(first, v, group int) part {
	k, more := blocks.Place(v, group)
	return part{symbol: first + k, rest: v & (1<<more - 1), more: more}
}

// A code is what symbols are packed by: of each the length, and the number with
// its bits turned round, as a writer begins with the lowest bit, a code with
// the highest.
type code struct {
	lengths []int
	numbers []uint32
}

// codeOf is handed lengths of which there is a code: there is no error to look
// at.
func codeOf(lengths []int) code {
	numbers, _ := prefix.Codes(lengths)
	for symbol, n := range lengths {
		numbers[symbol] = mathbits.Reverse32(numbers[symbol]) >> (32 - n)
	}
	return code{lengths, numbers}
}

// bestCode answers the code of at most most bits by which symbols that come so
// often take the least room. Symbols at the end that don't come at all are left
// out, as long as there are more than least.
func bestCode(counts []int, most, least int) code {
	lengths, _ := prefix.Build(counts, most)
	for len(lengths) > least && lengths[len(lengths)-1] == 0 {
		lengths = lengths[:len(lengths)-1]
	}
	return codeOf(lengths)
}

func (c code) write(w *bits.Writer, p part) {
	n := c.lengths[p.symbol]
	w.Put(c.numbers[p.symbol]|uint32(p.rest)<<n, n+p.more)
}

// size answers how many bits symbols take that come so often.
func (c code) size(counts []int) int {
	size := 0
	for symbol, n := range c.lengths {
		size += n * counts[symbol]
	}
	return size
}

// codes are those that a block's tokens are packed by.
type codes struct {
	literals, distances code
}

func fixedCodes() codes {
	return codes{codeOf(blocks.FixedLiterals()), codeOf(blocks.FixedDistances())}
}

const (
	mostBits        = 15 // of a code that is told
	mostLengthsBits = 7  // of the lengths' code
)

func bestCodes(t tally) codes {
	return codes{
		literals:  bestCode(t.literals, mostBits, blocks.MinLiterals),
		distances: bestCode(t.distances, mostBits, blocks.MinDistances),
	}
}

func (c codes) write(w *bits.Writer, tokens []token) {
	for _, t := range tokens {
		c.literals.write(w, t.literal)
		if t.matches {
			c.distances.write(w, t.distance)
		}
	}
}

func (c codes) size(t tally) int {
	return c.literals.size(t.literals) + c.distances.size(t.distances) + t.more
}

// A tally is how often each symbol comes in tokens, and how many bits stand
// behind symbols.
type tally struct {
	literals, distances []int
	more                int
}

func tallyOf(tokens []token) tally {
	t := tally{
		literals:  make([]int, blocks.FixedLiteralCodes),
		distances: make([]int, blocks.Distances),
	}
	for _, k := range tokens {
		t.literals[k.literal.symbol]++
		t.more += k.literal.more
		if k.matches {
			t.distances[k.distance.symbol]++
			t.more += k.distance.more
		}
	}
	return t
}
