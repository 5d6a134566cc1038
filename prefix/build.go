package prefix

import (
	"cmp"
	"slices"

	"darkroom/api"
)

// maxCount is the greatest count of a symbol.
const maxCount = 1 << 30

// A coin is one bit of a symbol's code, and weighs its count; or it is a pair
// of coins of the row ahead, and weighs both.
type coin struct {
	weight int64
	pair   bool
}

// Build answers lengths of codes, none above most, by which symbols that come
// as often as these counts say take as few bits as can be.
func Build(counts []int, most int) ([]int, api.Errno) {
	if e := countsFault(counts, most); e != api.OK {
		return nil, e
	}
	symbols := risingSymbols(counts)
	if len(symbols) > 1<<most {
		return nil, api.ErrMany
	}
	lengths := make([]int, len(counts))
	switch len(symbols) {
	case 0:
	case 1:
		lengths[symbols[0]] = 1
	default:
		spend(packed(coinsOf(symbols, counts), most), symbols, lengths)
	}
	return lengths, api.OK
}

func countsFault(counts []int, most int) api.Errno {
	if len(counts) > api.MaxSymbols {
		return api.ErrLong
	}
	if most < 1 || most > api.MaxBits {
		return api.ErrRange
	}
	for _, c := range counts {
		if c < 0 || c > maxCount {
			return api.ErrRange
		}
	}
	return api.OK
}

// risingSymbols answers the symbols that come at all, the rarest first.
func risingSymbols(counts []int) []int {
	var symbols []int
	for symbol, c := range counts {
		if c > 0 {
			symbols = append(symbols, symbol)
		}
	}
	slices.SortStableFunc(symbols, func(a, b int) int { return cmp.Compare(counts[a], counts[b]) })
	return symbols
}

func coinsOf(symbols, counts []int) []coin {
	coins := make([]coin, len(symbols))
	for i, symbol := range symbols {
		coins[i].weight = int64(counts[symbol])
	}
	return coins
}

// packed answers most rows of coins, the lightest first in each: that of the
// bits at depth most, and so on up to that of the first bits. In each row every
// symbol has a coin, and stand the pairs that the row ahead makes.
func packed(coins []coin, most int) [][]coin {
	rows := make([][]coin, most)
	var pairs []coin
	for i := range most {
		rows[i] = merged(coins, pairs)
		pairs = pairsOf(rows[i])
	}
	return rows
}

// pairsOf leaves out a last coin that has no other one.
func pairsOf(row []coin) []coin {
	pairs := make([]coin, len(row)/2)
	for i := range pairs {
		pairs[i] = coin{weight: row[2*i].weight + row[2*i+1].weight, pair: true}
	}
	return pairs
}

func merged(a, b []coin) []coin {
	row := make([]coin, 0, len(a)+len(b))
	for len(a) > 0 && len(b) > 0 {
		if a[0].weight <= b[0].weight {
			row, a = append(row, a[0]), a[1:]
		} else {
			row, b = append(row, b[0]), b[1:]
		}
	}
	return append(append(row, a...), b...)
}

// spend gives each symbol a bit for each of its coins that is bought. A code of
// k symbols is full when the lightest 2k - 2 coins of the last row are bought,
// each pair of which buys two of the row ahead of it.
func spend(rows [][]coin, symbols, lengths []int) {
	wanted := 2*len(symbols) - 2
	for _, row := range slices.Backward(rows) {
		pairs := 0
		for _, c := range row[:wanted] {
			if c.pair {
				pairs++
			}
		}
		for _, symbol := range symbols[:wanted-pairs] {
			lengths[symbol]++
		}
		wanted = 2 * pairs
	}
}
