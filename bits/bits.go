// Package bits takes bits out of bytes and puts them into bytes, in both
// orders, and knows numbers of several bytes and the stuffing of JPEG: see
// shared/doc/01-bits.md.
package bits

// An order tells, of a run of k bits that has i bits of n ahead of it, how far
// the run's lowest bit stands above the lowest of the n. It holds for the bits
// of a byte as for those of a number, so that one function is a whole order.
type order func(i, k, n int) int

func highFirst(i, k, n int) int { return n - i - k }

func lowFirst(i, k, n int) int { return i }

func orderOf(high bool) order {
	if high {
		return highFirst
	}
	return lowFirst
}

// maxTake is how many bits a number of Take and Put has at most.
const maxTake = 32

// bytesFor is how many bytes n bits begin.
func bytesFor(n int) int { return (n + 7) / 8 }

// copyOf is never a part of b, so that who is handed it may change it.
func copyOf(b []byte) []byte {
	c := make([]byte, len(b))
	copy(c, b)
	return c
}
