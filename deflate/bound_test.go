package deflate_test

import (
	"slices"
	"testing"

	"darkroom/probe"
)

// wantAlike asks for the bound of bytes that are all alike.
func wantAlike(t *testing.T, x byte, n int) {
	t.Helper()
	raw(t, probe.Alike(x, n), 0)
	for level := 1; level <= 2; level++ {
		if b := raw(t, probe.Alike(x, n), level); len(b) > 32+n/64 {
			t.Errorf("%d bytes %d take %d with level %d; want at most %d", n, x, len(b), level, 32+n/64)
		}
	}
}

// P5.2: bytes all alike, of many lengths.
func TestAlike(t *testing.T) {
	t.Parallel()
	for n := range 2100 {
		wantAlike(t, 'a', n)
	}
	for _, n := range []int{5000, 32767, 32768, 32769, 32770, 33025, 65534, 65535, 65536, 65537, 65538, 100000, 131069, 131070, 131071, 131072, 131073, 196605, 196606, 1000000} {
		wantAlike(t, 0, n)
		wantAlike(t, 0xFF, n)
	}
	for x := range 256 {
		for _, n := range []int{1, 2, 3, 4, 63, 64, 65, 260, 1000} {
			wantAlike(t, byte(x), n)
		}
	}
}

// P5.2: bytes that take more room in every code than stored: none comes more
// often than another, and none stands with the same ones twice; and those that
// a fixed code makes longer still.
func TestBytesBetterStored(t *testing.T) {
	t.Parallel()
	for _, n := range []int{1, 2, 3, 4, 5, 8, 100, 256, 257, 1000, 65534, 65535, 65536} {
		wantRaw(t, probe.NoneAgain(n))
		wantRaw(t, probe.Noise(1, n))
		high := probe.Noise(2, n)
		for i := range high {
			high[i] |= 0x90
		}
		wantRaw(t, high)
	}
	for n := range 257 {
		b := probe.Each()[256-n:]
		wantRaw(t, b)
		slices.Reverse(b)
		wantRaw(t, b)
	}
}

// P5.2: stored blocks that begin at whichever bit of a byte the block ahead of
// them ended, with nothing to spare.
func TestStoredBehindPacked(t *testing.T) {
	t.Parallel()
	for n := range 12 {
		// Each packed part ends a few bits farther than that of the n ahead.
		packed := slices.Concat(probe.Alike('p', 65535-2*n-1), probe.Noise(uint32(n), 2*n+1))
		better := probe.Noise(uint32(n)+50, 65535)
		wantRaw(t, slices.Concat(packed, better[:100+n]))
		wantRaw(t, slices.Concat(packed, better, packed, better[:n]))
	}
}
