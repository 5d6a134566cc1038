package lzw

import (
	mathbits "math/bits"
)

// A form is what one kind of LZW does otherwise than another.
type form struct {
	size  int  // bits of a byte
	high  bool // whether bits go from a byte's highest down
	early int  // how many codes too early the width grows
}

func gif(size int) form { return form{size: size} }

func tiff() form { return form{size: 8, high: true, early: 1} }

// clear answers the code by which all strings are forgotten. Below it stand the
// single bytes.
func (f form) clear() int { return 1 << f.size }

// end answers the code behind which there is none.
func (f form) end() int { return f.clear() + 1 }

// first answers the code of the first string that is met.
func (f form) first() int { return f.end() + 1 }

// What the reader's table may grow to.
const (
	maxCodes = 4096
	maxWidth = 12
)

// width answers how many bits the next code has, if the reader's table has so
// many codes.
func (f form) width(codes int) int {
	return min(mathbits.Len(uint(codes+f.early)), maxWidth)
}
