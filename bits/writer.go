package bits

import (
	"darkroom/api"
)

// Writer takes bits.
type Writer struct {
	data   []byte
	length int
	shift  order
}

// NewWriter answers a writer that fills a byte from its highest bit down if
// high, else from its lowest up.
func NewWriter(high bool) *Writer {
	return &Writer{shift: orderOf(high)}
}

// Put writes the n lowest bits of v.
func (w *Writer) Put(v uint32, n int) api.Errno {
	if w == nil {
		return api.ErrNil
	}
	if n < 0 || n > maxTake {
		return api.ErrRange
	}
	for i := 0; i < n; {
		at := w.length % 8
		if at == 0 {
			w.data = append(w.data, 0)
		}
		k := min(8-at, n-i)
		run := v >> w.shift(i, k, n) & (1<<k - 1)
		w.data[w.length/8] |= byte(run << w.shift(at, k, 8))
		i += k
		w.length += k
	}
	return api.OK
}

// Align writes bits 0 up to the next border.
func (w *Writer) Align() {
	if w != nil {
		// A byte that was begun is there in full, and nought where no bit was put.
		w.length = 8 * bytesFor(w.length)
	}
}

// Len answers how many bits were written.
func (w *Writer) Len() int {
	if w == nil {
		return 0
	}
	return w.length
}

// Bytes answers all that was written, the last byte filled up by bits 0.
func (w *Writer) Bytes() []byte {
	if w == nil {
		return nil
	}
	return copyOf(w.data)
}
