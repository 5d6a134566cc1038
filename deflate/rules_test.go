package deflate_test

import (
	"bytes"
	"slices"
	"sync"
	"testing"

	"darkroom/api"
	"darkroom/deflate"
	"darkroom/probe"
)

// calls are both functions.
var calls = map[string]func(b []byte, level int) ([]byte, api.Errno){
	"Raw":  deflate.Raw,
	"Zlib": deflate.Zlib,
}

// R3: nil and an empty list are one.
func TestNilIsEmpty(t *testing.T) {
	t.Parallel()
	for name, call := range calls {
		for level := range 3 {
			a, _ := call(nil, level)
			b, _ := call([]byte{}, level)
			c, _ := call(make([]byte, 0, 50), level)
			if len(a) == 0 || !bytes.Equal(a, b) || !bytes.Equal(a, c) {
				t.Errorf("%s: %x, %x, %x", name, a, b, c)
			}
		}
	}
}

// R4: what is handed in stays, spare room included; what stands behind it isn't
// read; what is answered is new memory.
func TestKeepsAndSharesNothing(t *testing.T) {
	t.Parallel()
	for name, call := range calls {
		for _, x := range slices.Concat(texts(), longTexts()[:3]) {
			for level := -1; level <= 3; level++ {
				want, wantE := call(slices.Clone(x.b), level)
				wanted := string(want)
				given, all := probe.Roomy(x.b)
				before := string(all)
				a, e := call(given, level)
				b, _ := call(given, level)
				if e != wantE || string(a) != wanted {
					t.Fatalf("%s(%s, %d) reads what wasn't handed in: %s, %d", name, x.name, level, probe.Short(a), e)
				}
				probe.Spoil(a)
				if string(all) != before {
					t.Fatalf("%s(%s, %d) changes what was handed in, or answers it", name, x.name, level)
				}
				if string(b) != wanted || string(want) != wanted {
					t.Fatalf("%s(%s, %d) shares memory", name, x.name, level)
				}
				probe.Spoil(all)
				if string(b) != wanted {
					t.Fatalf("%s(%s, %d) answers what was handed in", name, x.name, level)
				}
				if c, _ := call(slices.Clone(x.b), level); string(c) != wanted {
					t.Fatalf("%s(%s, %d) keeps what it answered", name, x.name, level)
				}
			}
		}
	}
}

// R5 and R6: no call hangs on those beside it.
func TestCallsBesideOneAnother(t *testing.T) {
	t.Parallel()
	all := slices.Concat(texts(), longTexts())
	type answer struct{ raw, zlib []byte }
	want := make([][3]answer, len(all))
	for i, x := range all {
		for level := range 3 {
			want[i][level].raw, _ = deflate.Raw(x.b, level)
			want[i][level].zlib, _ = deflate.Zlib(x.b, level)
		}
	}
	var ws sync.WaitGroup
	for g := range 8 {
		ws.Go(func() {
			for j := range all {
				i := (j*(2*g+1) + g) % len(all)
				level := (j + g) % 3
				r, _ := deflate.Raw(all[i].b, level)
				z, _ := deflate.Zlib(all[i].b, level)
				if !bytes.Equal(r, want[i][level].raw) || !bytes.Equal(z, want[i][level].zlib) {
					t.Errorf("%s at level %d: %s, %s", all[i].name, level, probe.Short(r), probe.Short(z))
				}
			}
		})
	}
	ws.Wait()
}
