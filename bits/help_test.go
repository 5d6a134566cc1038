package bits_test

import (
	"bytes"
	"testing"

	"darkroom/api"
	"darkroom/bits"
)

// orders names both values of high.
var orders = map[string]bool{"high": true, "low": false}

// bitsOf tells the bits of b one by one, as the chapter's section Orders says.
func bitsOf(b []byte, high bool) []uint32 {
	var out []uint32
	for _, x := range b {
		for i := range 8 {
			worth := byte(1) << i
			if high {
				worth = byte(128) >> i
			}
			if x&worth != 0 {
				out = append(out, 1)
			} else {
				out = append(out, 0)
			}
		}
	}
	return out
}

// numberOf tells the number whose bits these are.
func numberOf(b []uint32, high bool) uint32 {
	var v uint32
	for i := range b {
		if high {
			v = v<<1 | b[i]
		} else {
			v = v<<1 | b[len(b)-1-i]
		}
	}
	return v
}

func wantTake(t *testing.T, r *bits.Reader, n int, v uint32, e api.Errno) {
	t.Helper()
	if gotV, gotE := r.Take(n); gotV != v || gotE != e {
		t.Errorf("Take(%d) = %d, %d; want %d, %d", n, gotV, gotE, v, e)
	}
}

func wantReaderBytes(t *testing.T, r *bits.Reader, n int, b []byte, e api.Errno) {
	t.Helper()
	if gotB, gotE := r.Bytes(n); !bytes.Equal(gotB, b) || gotE != e {
		t.Errorf("Bytes(%d) = %x, %d; want %x, %d", n, gotB, gotE, b, e)
	}
}

func wantPlace(t *testing.T, r *bits.Reader, place, left int) {
	t.Helper()
	if r.Place() != place || r.Left() != left {
		t.Errorf("Place, Left = %d, %d; want %d, %d", r.Place(), r.Left(), place, left)
	}
}

func wantPut(t *testing.T, w *bits.Writer, v uint32, n int, e api.Errno) {
	t.Helper()
	if got := w.Put(v, n); got != e {
		t.Errorf("Put(%#x, %d) = %d; want %d", v, n, got, e)
	}
}

func wantWritten(t *testing.T, w *bits.Writer, length int, b []byte) {
	t.Helper()
	if w.Len() != length || !bytes.Equal(w.Bytes(), b) {
		t.Errorf("Len, Bytes = %d, %x; want %d, %x", w.Len(), w.Bytes(), length, b)
	}
}
