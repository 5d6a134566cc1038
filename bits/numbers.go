package bits

import (
	"darkroom/api"
)

// Get answers the number of size bytes from at on: the first one is the highest
// if big, else the lowest.
func Get(b []byte, at, size int, big bool) (uint32, api.Errno) {
	if e := spanFault(b, at, size); e != api.OK {
		return 0, e
	}
	var v uint32
	for i := range size {
		v |= uint32(b[at+i]) << byteShift(i, size, big)
	}
	return v, api.OK
}

// Set answers a copy of b with v's lowest bits in the size bytes from at on.
func Set(b []byte, at, size int, big bool, v uint32) ([]byte, api.Errno) {
	if e := spanFault(b, at, size); e != api.OK {
		return nil, e
	}
	c := copyOf(b)
	for i := range size {
		c[at+i] = byte(v >> byteShift(i, size, big))
	}
	return c, api.OK
}

func spanFault(b []byte, at, size int) api.Errno {
	if size < 1 || size > 4 {
		return api.ErrRange
	}
	// at + size might wrap round; len(b) - size can't.
	if at < 0 || at > len(b)-size {
		return api.ErrEnd
	}
	return api.OK
}

func byteShift(i, size int, big bool) int {
	if big {
		return 8 * (size - 1 - i)
	}
	return 8 * i
}
