package deflate_test

import (
	"bytes"
	"slices"
	"testing"

	"darkroom/api"
	"darkroom/deflate"
	"darkroom/probe"
)

// calls are both functions.
var calls = map[string]func(b []byte, level int) ([]byte, api.Errno){
	"Raw":  deflate.Raw,
	"Zlib": deflate.Zlib,
}

// R3: nil and an empty list are one.
func TestNilIsEmpty(t *testing.T) {
	t.Parallel()
	for name, call := range calls {
		for level := range 3 {
			a, _ := call(nil, level)
			b, _ := call([]byte{}, level)
			c, _ := call(make([]byte, 0, 50), level)
			if len(a) == 0 || !bytes.Equal(a, b) || !bytes.Equal(a, c) {
				t.Errorf("%s: %x, %x, %x", name, a, b, c)
			}
		}
	}
}

// R4: what is handed in stays, spare room included; what stands behind it isn't
// read; what is answered is new memory.
func TestKeepsAndSharesNothing(t *testing.T) {
	t.Parallel()
	for name, call := range calls {
		for _, x := range slices.Concat(probe.Texts(), longTexts()[:3]) {
			for level := -1; level <= 3; level++ {
				if s := probe.Kept(x.B, func(b []byte) ([]byte, api.Errno) { return call(b, level) }); s != "" {
					t.Fatalf("%s(%s, %d): %s", name, x.Name, level, s)
				}
			}
		}
	}
}

// P5.2, R5 and R6: the same bytes and level give the same stream, whatever was
// asked ahead and is asked beside.
func TestSameStream(t *testing.T) {
	t.Parallel()
	all := slices.Concat(probe.Texts(), longTexts())
	for name, call := range calls {
		if s := probe.Steady(3*len(all), func(i int) ([]byte, api.Errno) { return call(all[i/3].B, i%3) }); s != "" {
			t.Errorf("%s: %s", name, s)
		}
	}
}
