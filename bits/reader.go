package bits

import (
	"darkroom/api"
)

// Reader gives bits.
type Reader struct {
	data  []byte
	place int
	shift order
}

// NewReader answers a reader of a copy of b: its bits go from a byte's highest
// down if high, else from its lowest up.
func NewReader(b []byte, high bool) *Reader {
	return &Reader{data: copyOf(b), shift: orderOf(high)}
}

// Take answers the number that the next n bits are.
func (r *Reader) Take(n int) (uint32, api.Errno) {
	if r == nil {
		return 0, api.ErrNil
	}
	if n < 0 || n > maxTake {
		return 0, api.ErrRange
	}
	if n > r.Left() {
		return 0, api.ErrEnd
	}
	var v uint32
	for i := 0; i < n; {
		at := r.place % 8
		k := min(8-at, n-i)
		run := uint32(r.data[r.place/8]) >> r.shift(at, k, 8) & (1<<k - 1)
		v |= run << r.shift(i, k, n)
		i += k
		r.place += k
	}
	return v, api.OK
}

// Bytes drops the bits up to the next border and answers the n bytes behind it.
func (r *Reader) Bytes(n int) ([]byte, api.Errno) {
	if r == nil {
		return nil, api.ErrNil
	}
	if n < 0 {
		return nil, api.ErrRange
	}
	from := bytesFor(r.place)
	if n > len(r.data)-from {
		return nil, api.ErrEnd
	}
	r.place = 8 * (from + n)
	return copyOf(r.data[from : from+n]), api.OK
}

// Align drops the bits up to the next border.
func (r *Reader) Align() {
	if r != nil {
		r.place = 8 * bytesFor(r.place)
	}
}

// Left answers how many bits are left.
func (r *Reader) Left() int {
	if r == nil {
		return 0
	}
	return 8*len(r.data) - r.place
}

// Place answers how many bits were taken or dropped.
func (r *Reader) Place() int {
	if r == nil {
		return 0
	}
	return r.place
}
