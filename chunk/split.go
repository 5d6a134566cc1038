package chunk

import (
	"bytes"
	"iter"

	"darkroom/api"
	"darkroom/bits"
	"darkroom/sums"
)

// Split answers the chunks of a file, up to and with the end.
func Split(b []byte) ([]api.Chunk, api.Errno) {
	b, ok := bytes.CutPrefix(b, []byte(mark))
	if !ok {
		return nil, api.ErrMalformed
	}
	var list []api.Chunk
	for c := range chunks(b) {
		list = append(list, c)
		if c.Type == theEnd {
			return list, api.OK
		}
	}
	return nil, api.ErrMalformed
}

// chunks tells the chunks that b begins with, up to the first one that is none.
func chunks(b []byte) iter.Seq[api.Chunk] {
	return func(yield func(api.Chunk) bool) {
		rest := b
		for {
			c, ok := first(rest)
			if !ok || !yield(c) {
				return
			}
			rest = rest[lengthSize+typeSize+len(c.Data)+sumSize:]
		}
	}
}

// first answers the chunk that b begins with, and whether that is one.
func first(b []byte) (api.Chunk, bool) {
	length, e := bits.Get(b, 0, lengthSize, true)
	if e != api.OK || length > longest {
		return api.Chunk{}, false
	}
	end := lengthSize + typeSize + int(length)
	sum, e := bits.Get(b, end, sumSize, true)
	if e != api.OK {
		return api.Chunk{}, false
	}
	summed := b[lengthSize:end]
	typ, data := string(summed[:typeSize]), summed[typeSize:]
	if !isType(typ) || sum != sums.Crc(summed) {
		return api.Chunk{}, false
	}
	return api.Chunk{Type: typ, Data: bytes.Clone(data)}, true
}
