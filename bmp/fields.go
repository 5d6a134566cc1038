package bmp

import (
	"darkroom/api"
	"darkroom/bits"
)

// fields read the numbers of a file.
type fields struct {
	// number answers the one of so many bytes at a place, nought if it isn't there.
	number func(at, size int) int
	// whole tells whether all that were asked for so far are there.
	whole func() bool
}

// fieldsOf answers what reads the numbers of b. It remembers the fault of the
// first one that isn't there, so that none has to be asked for by itself.
func fieldsOf(b []byte) fields {
	first := api.OK
	return fields{
		number: func(at, size int) int {
			v, e := bits.Get(b, at, size, false)
			if first == api.OK {
				first = e
			}
			return int(v)
		},
		whole: func() bool { return first == api.OK },
	}
}

// signed answers a number of four bytes, with a sign.
func (f fields) signed(at int) int { return int(int32(f.number(at, 4))) }
