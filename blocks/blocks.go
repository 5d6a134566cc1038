// Package blocks knows what those who read deflated bytes and those who write
// them have in common: the kinds of blocks, the symbols, the codes that need
// not be told. See the section "The form" of shared/doc/04-inflate.md.
package blocks

import (
	mathbits "math/bits"
)

// The kinds of blocks.
const (
	Stored = 0 // bytes as they are
	Fixed  = 1 // symbols by codes that everyone knows
	Told   = 2 // symbols by codes that the block begins with
)

// MaxStored is how many bytes a block of kind Stored has at most.
const MaxStored = 65535

// What the literals' symbols from 256 on say. The last length stands for
// itself, though a symbol ahead of it could say it too.
const (
	End         = 256
	FirstLength = 257
	LastLength  = 285
)

// What a match may be.
const (
	MinLength   = 3
	MaxLength   = 258
	MinDistance = 1
	MaxDistance = 32768
)

// How many symbols there are. Those of the fixed code from Literals on stand
// for nothing; the others' codes are what they are as these have some too.
const (
	FixedLiteralCodes = 288
	Literals          = 286
	Distances         = 30
	Lengths           = 19 // of the code by which lengths of codes are packed
)

// How few symbols a block may tell of.
const (
	MinLiterals  = 257
	MinDistances = 1
	MinLengths   = 4
)

// The symbols of the lengths' code that aren't lengths themselves.
const (
	Again       = 16 // the length ahead
	FewNoughts  = 17
	ManyNoughts = 18
)

// Repeats answers how often at least the symbols from Again on say a length,
// and how many bits behind them tell how often more.
func Repeats(symbol int) (least, more int) {
	switch symbol {
	case Again:
		return 3, 2
	case FewNoughts:
		return 3, 3
	case ManyNoughts:
		return 11, 7
	}
	return 1, 0
}

// LengthsOrder answers the symbols of the lengths' code with those last that
// are seldom wanted, so that a block may leave them out.
func LengthsOrder() [Lengths]int {
	return [Lengths]int{16, 17, 18, 0, 8, 7, 9, 6, 10, 5, 11, 4, 12, 3, 13, 2, 14, 1, 15}
}

// FixedLiterals answers the lengths of the literals' fixed code.
func FixedLiterals() []int {
	lengths := make([]int, FixedLiteralCodes)
	for symbol := range lengths {
		switch {
		case symbol <= 143:
			lengths[symbol] = 8
		case symbol <= 255:
			lengths[symbol] = 9
		case symbol <= 279:
			lengths[symbol] = 7
		default:
			lengths[symbol] = 8
		}
	}
	return lengths
}

// FixedDistances answers the lengths of the distances' fixed code.
func FixedDistances() []int {
	lengths := make([]int, Distances)
	for symbol := range lengths {
		lengths[symbol] = 5
	}
	return lengths
}

// How many symbols a group of lengths, or of distances, has. Symbols go up in
// groups: those of the first two stand for a number each, and from group to
// group each stands for twice as many, told apart by one bit more.
const (
	LengthGroup   = 4
	DistanceGroup = 2
)

// Step answers what the symbol at place k stands for at least, counted from the
// least of its kind, and how many bits more tell its numbers apart.
func Step(k, group int) (least, more int) {
	if k < group {
		return k, 0
	}
	more = k/group - 1
	return (group + k%group) << more, more
}

// Place answers the place of the symbol that stands for v, counted from the
// least of its kind, and how many of v's lowest bits are told behind it.
func Place(v, group int) (k, more int) {
	more = max(mathbits.Len(uint(v/group))-1, 0)
	return more*group + v>>more, more
}
