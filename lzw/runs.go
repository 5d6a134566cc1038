package lzw

import (
	"bytes"
	"iter"
	"slices"

	"darkroom/api"
)

const (
	mostAtOnce = 128 // bytes of a run, and of what stands as it is
	nothing    = 128 // the sign ahead of neither
	repeats    = 257 // a sign above nothing, and how often a byte comes, in all
)

// Unpack answers what was packed into b as runs.
func Unpack(b []byte, most int) ([]byte, api.Errno) {
	var out []byte
	for len(b) > 0 {
		length, times := signed(int(b[0]))
		b = b[1:]
		if length > len(b) {
			return nil, api.ErrEnd
		}
		if len(out)+length*times > max(most, 0) {
			return nil, api.ErrLong
		}
		out = append(out, bytes.Repeat(b[:length], times)...)
		b = b[length:]
	}
	return out, api.OK
}

// signed answers how many bytes behind a sign it speaks of, and how often they
// come.
func signed(sign int) (length, times int) {
	switch {
	case sign < nothing:
		return sign + 1, 1
	case sign == nothing:
		return 0, 0
	}
	return 1, repeats - sign
}

// Pack answers runs that are read as b.
func Pack(b []byte) []byte {
	var out []byte
	from, at := 0, 0 // between them stands what is to stay as it is
	for run := range runs(b, mostAtOnce) {
		if saves(len(run), from < at) {
			out = append(asItIs(out, b[from:at]), byte(repeats-len(run)), run[0])
			from = at + len(run)
		}
		at += len(run)
	}
	return asItIs(out, b[from:])
}

// saves tells whether a run is to be written as one. Two bytes that stay as they
// are cost no sign where others do that ahead of them.
func saves(length int, behind bool) bool {
	return length > 2 || length == 2 && !behind
}

// asItIs writes bytes as they are.
func asItIs(out, b []byte) []byte {
	for part := range slices.Chunk(b, mostAtOnce) {
		out = append(append(out, byte(len(part)-1)), part...)
	}
	return out
}

// runs tells list in pieces, each of items that are alike, and of most at most.
func runs[T comparable](list []T, most int) iter.Seq[[]T] {
	return func(yield func([]T) bool) {
		for from := 0; from < len(list); {
			to := from + 1
			for to < len(list) && to-from < most && list[to] == list[from] {
				to++
			}
			if !yield(list[from:to]) {
				return
			}
			from = to
		}
	}
}
