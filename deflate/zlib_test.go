package deflate_test

import (
	"bytes"
	"compress/zlib"
	"io"
	"slices"
	"testing"

	"darkroom/api"
	"darkroom/deflate"
	"darkroom/inflate"
	"darkroom/probe"
	"darkroom/sums"
)

// wantZlib asks for what P5.3 tells, of all levels.
func wantZlib(t *testing.T, b []byte) {
	t.Helper()
	for level := range 3 {
		z, e := deflate.Zlib(b, level)
		if e != api.OK || len(z) < 6 {
			t.Fatalf("Zlib(%s, %d) = %s, %d", probe.Short(b), level, probe.Short(z), e)
		}
		if y, e := inflate.Zlib(z, len(b)); !bytes.Equal(y, b) || e != api.OK {
			t.Fatalf("Zlib(%s, %d) = %s is read as %s, %d", probe.Short(b), level, probe.Short(z), probe.Short(y), e)
		}
		if x := raw(t, b, level); len(z) != len(x)+6 {
			t.Fatalf("Zlib(%s, %d) takes %d, Raw %d", probe.Short(b), level, len(z), len(x))
		}
		body := z[2 : len(z)-4]
		if y, begun, e := inflate.Raw(z[2:], len(b)); !bytes.Equal(y, b) || begun != len(body) || e != api.OK {
			t.Fatalf("Zlib(%s, %d): the stream within is %s, %d, %d; want %d", probe.Short(b), level, probe.Short(y), begun, e, len(body))
		}
		if kinds := walked(t, body).kinds; slices.Max(kinds) > level {
			t.Fatalf("Zlib(%s, %d) has blocks of the kinds %v", probe.Short(b), level, kinds)
		}
		s := sums.Adler(b)
		if sum := z[len(z)-4:]; !bytes.Equal(sum, []byte{byte(s >> 24), byte(s >> 16), byte(s >> 8), byte(s)}) {
			t.Fatalf("Zlib(%s, %d) ends with %x; want %x", probe.Short(b), level, sum, s)
		}
		wantRead(t, z, b)
	}
}

// wantRead asks the library, which must find nothing behind the sum.
func wantRead(t *testing.T, z, b []byte) {
	t.Helper()
	in := bytes.NewReader(z)
	r, err := zlib.NewReader(in)
	if err != nil {
		t.Fatalf("%s: %v", probe.Short(z), err)
	}
	if y, err := io.ReadAll(r); !bytes.Equal(y, b) || err != nil || in.Len() != 0 {
		t.Fatalf("%s is read by the library as %s, %v, %d left", probe.Short(z), probe.Short(y), err, in.Len())
	}
}

// P5.3: texts of all kinds, at each level.
func TestZlibOfTexts(t *testing.T) {
	t.Parallel()
	for _, x := range slices.Concat(probe.Texts(), longTexts()) {
		t.Run(x.Name, func(t *testing.T) { wantZlib(t, x.B) })
	}
}

// P5.3: no bytes, single ones, and all alike, whose sums go over each half's
// bound.
func TestZlibOfFewAndAlike(t *testing.T) {
	t.Parallel()
	wantZlib(t, nil)
	wantZlib(t, []byte{})
	for x := range 256 {
		wantZlib(t, []byte{byte(x)})
	}
	for _, n := range []int{2, 3, 257, 258, 259, 5552, 5553, 65535, 65536, 70000} {
		wantZlib(t, probe.Alike(0xFF, n))
		wantZlib(t, probe.Noise(uint32(n), n))
	}
}

// P5.3: a stream that is cut off, or has a byte changed, isn't read as b.
func TestZlibIsLookedAt(t *testing.T) {
	t.Parallel()
	for _, x := range probe.Texts()[:10] {
		for level := range 3 {
			z, _ := deflate.Zlib(x.B, level)
			for n := range len(z) {
				if y, e := inflate.Zlib(z[:n], len(x.B)); e == api.OK {
					t.Fatalf("%s: %d of %d bytes are read as %s", x.Name, n, len(z), probe.Short(y))
				}
			}
			if y, e := inflate.Zlib(append(z, 1, 2), len(x.B)); !bytes.Equal(y, x.B) || e != api.OK {
				t.Fatalf("%s: %s, %d", x.Name, probe.Short(y), e)
			}
		}
	}
}
