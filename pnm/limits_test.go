package pnm_test

import (
	"fmt"
	"slices"
	"strings"
	"testing"

	"darkroom/api"
	"darkroom/pnm"
	"darkroom/probe"
)

// P10.1: a file of MaxFile bytes is read, one more is too long, whatever it is.
func TestLongFiles(t *testing.T) {
	longest := make([]byte, api.MaxFile+1)
	for i := range longest {
		longest[i] = ' '
	}
	for _, file := range []string{"P1 1 1 1", "P2 1 1 9 9", "P4 1 1 \x80", "P5 1 1 255 \x80", "P6 1 1 255 \x80\x80\x80", "", "P", "P2 1 1 9 10", "P2 0 1 9", "P2 4097 1 9", "x"} {
		b := slices.Clone(longest)
		copy(b, file)
		m, e := plainDecode([]byte(file), plenty)
		got, gotE := pnm.Decode(b[:api.MaxFile], plenty)
		if s := probe.Other(got, gotE, m, e); s != "" {
			t.Errorf("%q, and blanks: %s", file, s)
		}
		wantFault(t, string(b), plenty, api.ErrLimit)
		wantFault(t, string(b), 0, api.ErrLimit)
	}
	wantFault(t, strings.Repeat("P1 1 1 1 ", 500000), plenty, api.ErrLimit)
	// Most of the longest file there may be is a gap, or a remark.
	b := append(slices.Clone(longest[:api.MaxFile-7]), "1 1 1"...)
	copy(b, "P1")
	wantImage(t, string(b), plenty, probe.Greys(1, 1, 0))
	b[2] = '#'
	b[len(b)-6] = '\n'
	wantImage(t, string(b), plenty, probe.Greys(1, 1, 0))
}

// whole answers a file of an image that is white all over.
func whole(kind, w, h int) (string, api.Image) {
	m := probe.Greys(w, h, slices.Repeat([]uint16{greatest}, w*h)...)
	return string(plainEncode(m, kind, 1)), m
}

// P10.1: sizes that may be, the greatest ones among them, with as many pixels as
// there may be, and fewer.
func TestMost(t *testing.T) {
	t.Parallel()
	for _, kind := range kinds() {
		for _, s := range probe.Sizes() {
			file, want := whole(kind, s.W, s.H)
			n := s.W * s.H
			wantImage(t, file, n, want)
			for _, most := range []int{n + 1, 1<<63 - 1} {
				wantImage(t, file, most, want)
			}
			for _, most := range []int{n - 1, 0, -1, -n, -1 << 63} {
				wantFault(t, file, most, api.ErrLimit)
			}
		}
	}
}

// P10.1: sizes that may not be, however many pixels there may be.
func TestTooGreat(t *testing.T) {
	for _, kind := range kinds() {
		for _, s := range []probe.Size{
			{4097, 1}, {1, 4097}, {4096, 17}, {17, 4096}, {257, 256}, {256, 257}, {4096, 4096}, {65536, 1}, {1, 65536}, {4097, 4097},
			{999999999, 1}, {1, 999999999}, {999999999, 999999999}, {1 << 29, 1 << 29}, {65536, 65536}, {1 << 16, 1 << 15}, {4294967, 1000},
		} {
			file := fmt.Sprintf("P%d %d %d 1 ", kind, s.W, s.H)
			if !isGraded(kind) {
				file = fmt.Sprintf("P%d %d %d ", kind, s.W, s.H)
			}
			if s.W*s.H < 200000 {
				file, _ = whole(kind, s.W, s.H)
			}
			for _, most := range []int{plenty, 1 << 62, 1<<63 - 1, 1, 0, -1} {
				wantFault(t, file, most, api.ErrLimit)
			}
		}
	}
}

// P10.1: a broken head goes ahead of a size that is too great, and that ahead of
// samples that are broken, or aren't there.
func TestOrderOfFaults(t *testing.T) {
	for _, size := range []string{"4097 1", "1 4097", "257 256", "3 1"} {
		const most = 2
		for _, kind := range []int{2, 3, 5, 6} {
			for _, rest := range []string{"", " ", " x", " 0", " 0 0", "x", " 65536", "\n10 11 12", "#", "#x\n", "\x80", "-1"} {
				wantFault(t, fmt.Sprintf("P%d %s 9%s", kind, size, rest), most, api.ErrLimit)
			}
			for _, rest := range []string{"", " ", " x", " 0", " 65536", " 65536 0 0 0", " 9999999999", " -1", "x 9", "#", "# 9", " #9"} {
				wantFault(t, fmt.Sprintf("P%d %s%s", kind, size, rest), most, api.ErrMalformed)
			}
		}
		for _, kind := range []int{1, 4} {
			for _, rest := range []string{"", " ", " x", " 2", " 2 2 2", "x", "#", "\x80", "-1", ".0"} {
				wantFault(t, fmt.Sprintf("P%d %s%s", kind, size, rest), most, api.ErrLimit)
			}
		}
	}
	for _, file := range []string{"P0 4097 1 9 ", "P7 4097 1 9 ", "Q2 4097 1 9 ", "P2 4097 0 9 ", "P2 0 4097 9 ", "P2 4097 9", "P2 4097", "P1 4097", "P24097 1 9", "P2 4097 9999999999 1", "P2 9999999999 4097 1", "P1 4097 1234567890"} {
		wantFault(t, file, plenty, api.ErrMalformed)
		wantFault(t, file, 0, api.ErrMalformed)
	}
}
