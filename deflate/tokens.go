package deflate

import (
	"darkroom/blocks"
)

// A token is what a block packs as one: a byte, a match or the block's end.
type token struct {
	literal  part // the byte, the match's length, or the end
	distance part // of a match
	matches  bool
}

func byteToken(b byte) token { return token{literal: part{symbol: int(b)}} }

func endToken() token { return token{literal: part{symbol: blocks.End}} }

func matchToken(length, distance int) token {
	return token{literal: lengthPart(length), distance: distancePart(distance), matches: true}
}

// tokenizer answers a function that makes tokens of the text, part by part: it
// is to be handed the places where the parts begin and end. No match runs over
// a part's end; but one may reach back into the parts ahead.
func tokenizer(text []byte) func(from, to int) []token {
	note, longest := placesOf(text)
	return func(from, to int) []token {
		tokens := make([]token, 0, to-from+1)
		for at := from; at < to; {
			length, distance := longest(at, min(to-at, blocks.MaxLength))
			if length >= blocks.MinLength {
				tokens = append(tokens, matchToken(length, distance))
			} else {
				length = 1
				tokens = append(tokens, byteToken(text[at]))
			}
			for range length {
				note(at)
				at++
			}
		}
		return append(tokens, endToken())
	}
}

const (
	reach     = blocks.MaxDistance
	unreached = -reach - 1 // no place of a text is so near to this that it reaches it
	mostTries = 128        // of a match; more would take long where the same few bytes come often
)

// placesOf answers two functions that share a memory of the text's places. note
// is to be called for each place in turn. longest answers, for the place that
// is noted next, the match that has the most bytes, up to most, and of several
// the nearest; its length is 0 if there is none.
func placesOf(text []byte) (note func(at int), longest func(at, most int) (length, distance int)) {
	latest := map[uint32]int{}
	ahead := make([]int, min(len(text), reach))
	find := func(at int) int {
		if at > len(text)-blocks.MinLength {
			return unreached
		}
		if place, ok := latest[keyAt(text, at)]; ok {
			return place
		}
		return unreached
	}
	note = func(at int) {
		if at > len(text)-blocks.MinLength {
			return
		}
		ahead[at%reach] = find(at)
		latest[keyAt(text, at)] = at
		// What is out of reach by now is let go, so that the map stays small.
		if gone := at - reach; gone >= 0 && find(gone) == gone {
			delete(latest, keyAt(text, gone))
		}
	}
	longest = func(at, most int) (length, distance int) {
		place := find(at)
		for tries := 0; tries < mostTries && length < most && at-place <= reach; tries++ {
			if n := alike(text[place:], text[at:at+most]); n > length {
				length, distance = n, at-place
			}
			place = ahead[place%reach]
		}
		return length, distance
	}
	return note, longest
}

// keyAt is the least match at a place, as a number.
func keyAt(text []byte, at int) uint32 {
	return uint32(text[at]) | uint32(text[at+1])<<8 | uint32(text[at+2])<<16
}

// alike answers how many bytes of b, from its first one on, stand in a too.
func alike(a, b []byte) int {
	for i := range b {
		if a[i] != b[i] {
			return i
		}
	}
	return len(b)
}
