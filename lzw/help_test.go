package lzw_test

import (
	"bytes"
	"fmt"
	"slices"
	"strings"
	"testing"

	"darkroom/api"
	"darkroom/lzw"
	"darkroom/probe"
)

const plenty = 1 << 24

// A kind is one of LZW: GIF's of a size, or TIFF's.
type kind struct {
	name  string
	clear int
	high  bool
	early int // how many codes ahead of 2^width the width grows
	first int // the first width
}

func gif(size int) kind {
	return kind{name: fmt.Sprintf("GIF of size %d", size), clear: 1 << size, first: size + 1}
}

var tiff = kind{name: "TIFF", clear: 256, high: true, early: 1, first: 9}

func kinds() []kind {
	all := []kind{tiff}
	for size := 2; size <= 8; size++ {
		all = append(all, gif(size))
	}
	return all
}

func (k kind) end() int { return k.clear + 1 }

func (k kind) unpack(b []byte, most int) ([]byte, api.Errno) {
	if k.high {
		return lzw.TiffUnpack(b, most)
	}
	return lzw.GifUnpack(b, k.first-1, most)
}

func (k kind) pack(b []byte) ([]byte, api.Errno) {
	if k.high {
		return lzw.TiffPack(b), api.OK
	}
	return lzw.GifPack(b, k.first-1)
}

// fit makes bytes such as the kind may have.
func (k kind) fit(b []byte) []byte {
	b = bytes.Clone(b)
	for i := range b {
		b[i] &= byte(k.clear - 1)
	}
	return b
}

// digits writes a code's bits in the order in which they come.
func (k kind) digits(code, width int) string {
	b := []byte(fmt.Sprintf("%0*b", width, code))
	if !k.high {
		b = turned(b)
	}
	return string(b)
}

func turned(b []byte) []byte {
	for i, j := 0, len(b)-1; i < j; i, j = i+1, j-1 {
		b[i], b[j] = b[j], b[i]
	}
	return b
}

// bytes puts digits into bytes, and fills the last one up by fill.
func (k kind) bytes(digits, fill string) []byte {
	for len(digits)%8 != 0 {
		digits += fill
	}
	var b []byte
	for ; digits != ""; digits = digits[8:] {
		var x byte
		for i := range 8 {
			at := i
			if k.high {
				at = 7 - i
			}
			x |= (digits[i] - '0') << at
		}
		b = append(b, x)
	}
	return b
}

// text writes bytes as digits.
func (k kind) text(b []byte) string {
	var t strings.Builder
	for _, x := range b {
		t.WriteString(k.digits(int(x), 8))
	}
	return t.String()
}

// A table is what a reader knows, as the chapter tells it: strings by their
// codes, how wide the next code is, the string of the code ahead.
type table struct {
	kind
	strings []string
	width   int
	ahead   string
}

func newTable(k kind) *table {
	t := &table{kind: k}
	for x := range k.clear {
		t.strings = append(t.strings, string([]byte{byte(x)}))
	}
	t.strings = append(t.strings, "", "")
	t.reset()
	return t
}

func (t *table) reset() {
	t.strings, t.width, t.ahead = t.strings[:t.clear+2], t.first, ""
}

// read answers what is written for a code.
func (t *table) read(code int) (string, api.Errno) {
	if code == t.clear {
		t.reset()
		return "", api.OK
	}
	if t.ahead == "" {
		if code > t.clear {
			return "", api.ErrCode
		}
		t.ahead = t.strings[code]
		return t.ahead, api.OK
	}
	out := ""
	switch {
	case code < len(t.strings):
		out = t.strings[code]
	case code == len(t.strings) && len(t.strings) < 4096:
		out = t.ahead + t.ahead[:1]
	default:
		return "", api.ErrCode
	}
	if len(t.strings) < 4096 {
		t.strings = append(t.strings, t.ahead+out[:1])
		if len(t.strings) == 1<<t.width-t.early && t.width < 12 {
			t.width++
		}
	}
	t.ahead = out
	return out, api.OK
}

// A stream is codes put together one by one, and what they are to be read as.
type stream struct {
	*table
	digits strings.Builder
	out    []byte
	e      api.Errno
}

func newStream(k kind) *stream { return &stream{table: newTable(k)} }

// put writes codes, each as wide as the reader takes it for.
func (s *stream) put(codes ...int) *stream {
	for _, code := range codes {
		s.digits.WriteString(s.kind.digits(code, s.width))
		if code == s.end() || s.e != api.OK {
			continue
		}
		out, e := s.read(code)
		s.out, s.e = append(s.out, out...), e
	}
	return s
}

// clone answers a stream of the same codes, to be gone on with otherwise.
func (s *stream) clone() *stream {
	c := &stream{table: newTable(s.kind), out: bytes.Clone(s.out), e: s.e}
	c.strings, c.width, c.ahead = slices.Clone(s.strings), s.width, s.ahead
	c.digits.WriteString(s.digits.String())
	return c
}

// packed answers the stream's bytes, the last one filled up by noughts.
func (s *stream) packed() []byte { return s.bytes(s.digits.String(), "0") }

// plain answers what codes are read as, told by the chapter, and how many bits
// were taken.
func plain(k kind, b []byte, most int) (out []byte, taken int, e api.Errno) {
	t, digits := newTable(k), k.text(b)
	for {
		if len(digits)-taken < t.width {
			return nil, taken, api.ErrEnd
		}
		code := 0
		for i := range t.width {
			at := i
			if k.high {
				at = t.width - 1 - i
			}
			code |= int(digits[taken+i]-'0') << at
		}
		taken += t.width
		if code == k.end() {
			return out, taken, api.OK
		}
		s, e := t.read(code)
		if e != api.OK {
			return nil, taken, e
		}
		if len(out)+len(s) > max(most, 0) {
			return nil, taken, api.ErrLong
		}
		out = append(out, s...)
	}
}

// want asks for what b is read as.
func want(t *testing.T, k kind, b []byte, most int, out []byte) {
	t.Helper()
	if x, e := k.unpack(b, most); e != api.OK || !bytes.Equal(x, out) {
		t.Fatalf("%s: %s, most %d, is read as %s, %d; want %s", k.name, probe.Short(b), most, probe.Short(x), e, probe.Short(out))
	}
}

// wantFault asks for a fault of b.
func wantFault(t *testing.T, k kind, b []byte, most int, fault api.Errno) {
	t.Helper()
	if x, e := k.unpack(b, most); e != fault || len(x) != 0 {
		t.Fatalf("%s: %s, most %d, is read as %s, %d; want %d", k.name, probe.Short(b), most, probe.Short(x), e, fault)
	}
}

// wantAsTold asks for what the plain reader answers.
func wantAsTold(t *testing.T, k kind, b []byte, most int) {
	t.Helper()
	out, _, fault := plain(k, b, most)
	if fault != api.OK {
		wantFault(t, k, b, most, fault)
		return
	}
	want(t, k, b, most, out)
}

// wantStream asks for what a stream is to be read as, ended or not.
func wantStream(t *testing.T, s *stream) {
	t.Helper()
	b := s.packed()
	if s.e != api.OK {
		wantFault(t, s.kind, b, plenty, s.e)
		return
	}
	want(t, s.kind, b, len(s.out), s.out)
	if len(s.out) > 0 {
		wantFault(t, s.kind, b, len(s.out)-1, api.ErrLong)
	}
}
