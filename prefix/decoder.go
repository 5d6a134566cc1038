package prefix

import (
	"darkroom/api"
	"darkroom/bits"
)

// Decoder reads symbols.
type Decoder struct {
	layout
	used    int   // how much of the space is taken: all of it below this number
	symbols []int // those with a code, in the order of their codes
}

// New answers a decoder of the code of these lengths.
func New(lengths []int) (*Decoder, api.Errno) {
	if e := codesFault(lengths); e != api.OK {
		return nil, e
	}
	l := layoutOf(lengths)
	d := &Decoder{
		layout:  l,
		used:    l.first[api.MaxBits] + l.count[api.MaxBits],
		symbols: make([]int, l.ahead[api.MaxBits]+l.count[api.MaxBits]),
	}
	next := l.ahead
	for symbol, n := range lengths {
		if n > 0 {
			d.symbols[next[n]] = symbol
			next[n]++
		}
	}
	return d, api.OK
}

// Next answers the symbol whose code r's next bits are. Bits that turn out to
// be no code, or only the beginning of one, stay taken.
func (d *Decoder) Next(r *bits.Reader) (int, api.Errno) {
	if d == nil || r == nil {
		return 0, api.ErrNil
	}
	// This ends at MaxBits bits at the latest: the space has no gap below used,
	// so that any number of so many bits that is below it is a code.
	for number, n := 0, 0; number<<(api.MaxBits-n) < d.used; {
		bit, e := r.Take(1)
		if e != api.OK {
			return 0, e
		}
		number = 2*number + int(bit)
		n++
		if at := number - d.first[n]; at < d.count[n] {
			return d.symbols[d.ahead[n]+at], api.OK
		}
	}
	return 0, api.ErrCode
}
