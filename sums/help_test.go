package sums_test

import (
	"bytes"
	"testing"
)

// A kind is one of the two sums: over bytes, and gone on with from a number.
type kind struct {
	name  string
	of    func(b []byte) uint32
	on    func(sum uint32, b []byte) uint32
	plain func(sum uint32, b []byte) uint32
	none  uint32
}

// numbers are those to go on from: both halves at, next to and far above 65521,
// and such as no sum of anything need be.
var numbers = []uint32{
	0, 1, 2, 0x80, 0xFF, 0xFFF0, 0xFFF1, 0xFFF2, 0xFFFF,
	0x10000, 0x10001, 0x7FFFFFFF, 0x80000000, 0xCBF43926, 0xDEADBEEF, 0xEDB88320,
	0xFFF00000, 0xFFF0FFF0, 0xFFF0FFF1, 0xFFF10000, 0xFFF1FFF0, 0xFFF1FFF1,
	0xFFF2FFF3, 0xFFFF0000, 0xFFFF0001, 0xFFFFFFFE, 0xFFFFFFFF,
}

// alike answers n bytes x.
func alike(x byte, n int) []byte { return bytes.Repeat([]byte{x}, n) }

// plainCrc goes bit by bit, as P2.1 tells it.
func plainCrc(sum uint32, b []byte) uint32 {
	c := sum ^ (1<<32 - 1)
	for _, x := range b {
		c ^= uint32(x)
		for range 8 {
			odd := c%2 == 1
			c /= 2
			if odd {
				c ^= 3988292384
			}
		}
	}
	return c ^ (1<<32 - 1)
}

// plainAdler goes byte by byte, as P2.2 tells it.
func plainAdler(sum uint32, b []byte) uint32 {
	s, t := uint64(sum)%65536%65521, uint64(sum)/65536%65521
	for _, x := range b {
		s = (s + uint64(x)) % 65521
		t = (t + s) % 65521
	}
	return uint32(65536*t + s)
}

func wantSum(t *testing.T, what string, got, want uint32) {
	t.Helper()
	if got != want {
		t.Errorf("%s = %08X; want %08X", what, got, want)
	}
}
