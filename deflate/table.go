package deflate

import (
	"slices"

	"darkroom/bits"
	"darkroom/blocks"
)

// A table tells the codes of a block.
type table struct {
	literals, distances int // how many lengths each code has
	runs                []part
	code                code // what the runs are packed by
	order               []int
}

func tableOf(c codes) table {
	runs := runsOf(slices.Concat(c.literals.lengths, c.distances.lengths))
	t := table{
		literals:  len(c.literals.lengths),
		distances: len(c.distances.lengths),
		runs:      runs,
		code:      bestCode(countsOf(runs), mostLengthsBits, blocks.Lengths),
	}
	order := blocks.LengthsOrder()
	t.order = order[:]
	for len(t.order) > blocks.MinLengths && t.code.lengths[t.order[len(t.order)-1]] == 0 {
		t.order = t.order[:len(t.order)-1]
	}
	return t
}

func countsOf(runs []part) []int {
	counts := make([]int, blocks.Lengths)
	for _, r := range runs {
		counts[r.symbol]++
	}
	return counts
}

// How many bits each number has that stands at a table's beginning.
const (
	literalsBits  = 5
	distancesBits = 5
	orderBits     = 4
	lengthBits    = 3
)

func (t table) size() int {
	size := literalsBits + distancesBits + orderBits + lengthBits*len(t.order)
	for _, r := range t.runs {
		size += t.code.lengths[r.symbol] + r.more
	}
	return size
}

func (t table) write(w *bits.Writer) {
	w.Put(uint32(t.literals-blocks.MinLiterals), literalsBits)
	w.Put(uint32(t.distances-blocks.MinDistances), distancesBits)
	w.Put(uint32(len(t.order)-blocks.MinLengths), orderBits)
	for _, symbol := range t.order {
		w.Put(uint32(t.code.lengths[symbol]), lengthBits)
	}
	for _, r := range t.runs {
		t.code.write(w, r)
	}
}

// runsOf answers a row of lengths as symbols of the lengths' code.
func runsOf(row []int) []part {
	var runs []part
	for at := 0; at < len(row); {
		r, times := runAt(row, at)
		runs = append(runs, r)
		at += times
	}
	return runs
}

// runAt answers the symbol that says the most of the lengths from at on, and
// how many that is.
func runAt(row []int, at int) (part, int) {
	there := 1
	for at+there < len(row) && row[at+there] == row[at] {
		there++
	}
	for _, symbol := range repeatsAt(row, at) {
		if least, more := blocks.Repeats(symbol); there >= least {
			times := min(there, least+1<<more-1)
			return part{symbol, times - least, more}, times
		}
	}
	return part{symbol: row[at]}, 1
}

// repeatsAt answers the symbols that could say the length at this place more
// than once, that which says it most often first.
func repeatsAt(row []int, at int) []int {
	switch {
	case row[at] == 0:
		return []int{blocks.ManyNoughts, blocks.FewNoughts}
	case at > 0 && row[at] == row[at-1]:
		return []int{blocks.Again}
	}
	return nil
}
