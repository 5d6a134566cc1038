// Package probe holds what the tests of several packages share: lists to hand
// in, and ways to find out what is done to them.
package probe

import (
	"strconv"
	"strings"
)

// Noise answers n bytes that look like none in particular, the same each time
// for one seed.
func Noise(seed uint32, n int) []byte {
	b := make([]byte, n)
	s := seed*2654435761 + 12345
	for i := range b {
		s = s*1664525 + 1013904223
		b[i] = byte(s >> 24)
	}
	return b
}

// Number is what lists are of that are handed in.
type Number interface {
	~uint8 | ~uint16 | ~uint32 | ~int
}

// margin is how many numbers stand around a list of Roomy.
const margin = 8

// Roomy answers list as the middle of a greater one, and that one: what is
// written into spare room shows there, and what is read there is no nought.
func Roomy[T Number](list []T) (middle, all []T) {
	all = make([]T, len(list)+2*margin)
	for i := range all {
		all[i] = 238
	}
	copy(all[margin:], list)
	return all[margin : margin+len(list)], all
}

// Spoil changes a list and its spare room; to do it twice doesn't undo it.
func Spoil[T Number](list []T) {
	list = list[:cap(list)]
	for i := range list {
		list[i] += 101
	}
}

// mostTold is how many bytes, or samples, are told of a great many.
const mostTold = 60

// Short tells bytes, but not all of many.
func Short(b []byte) string {
	var t strings.Builder
	for _, x := range b[:min(len(b), mostTold)] {
		t.WriteString(strconv.FormatUint(uint64(x)+256, 16)[1:])
	}
	if len(b) > mostTold {
		t.WriteString(".. (" + strconv.Itoa(len(b)) + ")")
	}
	return t.String()
}
