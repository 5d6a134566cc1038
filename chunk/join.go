package chunk

import (
	"darkroom/api"
	"darkroom/bits"
	"darkroom/sums"
)

// Join answers a file of these chunks.
func Join(cs []api.Chunk) ([]byte, api.Errno) {
	if !mayBeJoined(cs) {
		return nil, api.ErrArgs
	}
	b := []byte(mark)
	for _, c := range cs {
		summed := append([]byte(c.Type), c.Data...)
		b = append(b, number(uint32(len(c.Data)), lengthSize)...)
		b = append(b, summed...)
		b = append(b, number(sums.Crc(summed), sumSize)...)
	}
	return b, api.OK
}

// mayBeJoined tells whether all types may be, and the end stands last and nowhere
// else.
func mayBeJoined(cs []api.Chunk) bool {
	for i, c := range cs {
		if !isType(c.Type) || (c.Type == theEnd) != (i == len(cs)-1) {
			return false
		}
	}
	return len(cs) > 0
}

// number answers the bytes of a number, the highest one first.
func number(v uint32, size int) []byte {
	// There is room for it.
	b, _ := bits.Set(make([]byte, size), 0, size, true, v)
	return b
}
