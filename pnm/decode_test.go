package pnm_test

import (
	"fmt"
	"slices"
	"strings"
	"testing"

	"darkroom/api"
	"darkroom/probe"
)

// P10.1: the document's examples.
func TestDecodeExamples(t *testing.T) {
	wantImage(t, "P1 2 1 10", plenty, probe.Greys(2, 1, 0, greatest))
	wantFault(t, "P2 1 1 9 10", plenty, api.ErrMalformed)
	wantImage(t, "P5 1 1 255 \x80", plenty, probe.Greys(1, 1, 32896))
	wantImage(t, "P1#x\n1 1\n1", plenty, probe.Greys(1, 1, 0))
	wantImage(t, "P2 3 1 9 1 5 9", plenty, probe.Greys(3, 1, 7282, 36408, greatest))
	wantImage(t, "P3\n2 1\n255\n255 0 0 255 0 0", plenty, probe.Solid(2, 1, greatest, 0, 0, greatest, 0, 0))
}

// P10.1: a file of each kind: rows from the top, pixels from the left, red, green
// and blue in this order, 1 black or not.
func TestDecodeKinds(t *testing.T) {
	const w = greatest
	for _, x := range []struct {
		file string
		want api.Image
	}{
		{"P1 3 2 100 011", probe.Greys(3, 2, 0, w, w, w, 0, 0)},
		{"P1 1 3 1\n0\n1\n", probe.Greys(1, 3, 0, w, 0)},
		{"P2 3 2 15 0 1 2 3 14 15", probe.Greys(3, 2, 0, 4369, 8738, 13107, 61166, w)},
		{"P2 1 1 1 1", probe.Greys(1, 1, w)},
		{"P3 1 2 65535 1 2 3 65533 65534 65535", probe.Solid(1, 2, 1, 2, 3, 65533, 65534, w)},
		{"P3 2 1 1 1 0 0 0 1 1", probe.Solid(2, 1, w, 0, 0, 0, w, w)},
		{"P4 3 2 \x80\x60", probe.Greys(3, 2, 0, w, w, w, 0, 0)},
		{"P4 8 1\n\x01", probe.Greys(8, 1, w, w, w, w, w, w, w, 0)},
		{"P4 9 2\n\x80\x80\x40\x00", probe.Greys(9, 2, 0, w, w, w, w, w, w, w, 0, w, 0, w, w, w, w, w, w, w)},
		{"P5 3 2 255\n\x00\x01\x02\x03\xFE\xFF", probe.Greys(3, 2, 0, 257, 514, 771, 65278, w)},
		{"P5 1 2 1\n\x01\x00", probe.Greys(1, 2, w, 0)},
		{"P5 2 1 256\n\x00\x01\x01\x00", probe.Greys(2, 1, 256, w)},
		{"P5 1 2 65535\n\x12\x34\xFF\x00", probe.Greys(1, 2, 0x1234, 0xFF00)},
		{"P6 1 2 255\n\x00\x01\x02\x03\x04\xFF", probe.Solid(1, 2, 0, 257, 514, 771, 1028, w)},
		{"P6 2 1 65535\n\x00\x01\x02\x03\x04\x05\x06\x07\x08\x09\x0A\x0B", probe.Solid(2, 1, 0x1, 0x203, 0x405, 0x607, 0x809, 0xA0B)},
	} {
		wantImage(t, x.file, plenty, x.want)
	}
}

// P10.1: letters and digits that are no kind, and none at all.
func TestDecodeOfNoKind(t *testing.T) {
	rest := " 1 1 1 1 1 1 1 1 1"
	for c := range 256 {
		if c != 'P' {
			wantFault(t, string([]byte{byte(c)})+"2"+rest, plenty, api.ErrMalformed)
		}
		file := "P" + string([]byte{byte(c)}) + rest
		if c < '1' || c > '6' {
			wantFault(t, file, plenty, api.ErrMalformed)
		}
	}
	for _, file := range []string{"", "P", "2", "P2", "1" + rest, "PP2" + rest, " P2" + rest, "P 2" + rest, "P02" + rest, "P22" + rest, "P-2" + rest, "P#\n2" + rest, "\nP2" + rest, "\xEF\xBB\xBFP2" + rest} {
		wantFault(t, file, plenty, api.ErrMalformed)
	}
}

// P10.1: of each top value noughts, the greatest sample, and one between, in
// digits and packed.
func TestDecodeOfEachTop(t *testing.T) {
	t.Parallel()
	for top := 1; top <= greatest; top++ {
		v := (top + 1) * 3 / 7
		want := probe.Greys(3, 1, 0, probe.Up(v, top), greatest)
		wantImage(t, fmt.Sprintf("P2 3 1 %d 0 %d %d", top, v, top), plenty, want)
		packed := []byte{0, byte(v), byte(top)}
		if top >= 256 {
			packed = []byte{0, 0, byte(v >> 8), byte(v), byte(top >> 8), byte(top)}
		}
		wantImage(t, fmt.Sprintf("P5 3 1 %d\n%s", top, packed), plenty, want)
	}
}

// P10.1: of some top values each sample, in digits and packed.
func TestDecodeOfEachSample(t *testing.T) {
	t.Parallel()
	for _, top := range tops() {
		w, h := min(top+1, 256), (top+256)/256
		list := make([]uint16, w*h)
		var digits []string
		var packed []byte
		for i := range list {
			v := i % (top + 1)
			list[i] = probe.Up(v, top)
			digits = append(digits, fmt.Sprint(v))
			if top >= 256 {
				packed = append(packed, byte(v>>8))
			}
			packed = append(packed, byte(v))
		}
		want := probe.Greys(w, h, list...)
		wantImage(t, fmt.Sprintf("P2 %d %d %d %s", w, h, top, strings.Join(digits, " ")), plenty, want)
		wantImage(t, fmt.Sprintf("P5 %d %d %d\n%s", w, h, top, packed), plenty, want)
	}
}

// P10.1: no sample is above the top value, wherever it stands.
func TestSamplesAboveTop(t *testing.T) {
	for _, top := range tops() {
		for _, color := range []bool{false, true} {
			for place := range 6 {
				for _, v := range []int{top + 1, top + 2, 256, 65535, 65536, 65537, 131071, 999999999} {
					list := []int{top, 0, top, 0, top, top}
					list[place] = v
					head := fmt.Sprintf(" 6 1 %d", top)
					kind := 2
					if color {
						head = fmt.Sprintf(" 2 1 %d", top)
						kind = 3
					}
					if v > top {
						wantFault(t, fmt.Sprint("P", kind, head, " ", strings.Trim(fmt.Sprint(list), "[]")), plenty, api.ErrMalformed)
					}
					if v > top && (v < 256 || v < 65536 && top > 255) {
						wantFault(t, fmt.Sprint("P", kind+3, head, "\n", string(plainRow(list, kind+3, top))), plenty, api.ErrMalformed)
					}
				}
			}
		}
	}
	for place := range 6 {
		for c := range 256 {
			list := []byte("010110")
			list[place] = byte(c)
			want := probe.Greys(6, 1, greatest, 0, greatest, 0, 0, greatest)
			for i := range 3 {
				want.Pix[4*place+i] = greatest
				if c == '1' {
					want.Pix[4*place+i] = 0
				}
			}
			if file := fmt.Sprintf("P1 3 2 %s", list); c == '0' || c == '1' {
				want.W, want.H = 3, 2
				wantImage(t, file, plenty, want)
			} else {
				wantFault(t, file, plenty, api.ErrMalformed)
			}
		}
	}
}

// P10.1: of kind 4 each row is in whole bytes, whatever its last bits are.
func TestBitsBehindRows(t *testing.T) {
	for w := 1; w <= 33; w++ {
		for _, h := range []int{1, 2, 5} {
			length := (w + 7) / 8
			packed := probe.Noise(uint32(w), length*h)
			var list []uint16
			for i := range w * h {
				bit := packed[i/w*length+i%w/8] << (i % w % 8) >> 7
				list = append(list, greatest*(1-uint16(bit)))
			}
			want := probe.Greys(w, h, list...)
			for _, fill := range []byte{0, 255, 0x55} {
				for y := range h {
					last := y*length + length - 1
					mask := byte(255) >> ((w-1)%8 + 1)
					packed[last] = packed[last]&^mask | fill&mask
				}
				wantImage(t, fmt.Sprintf("P4 %d %d\n%s", w, h, packed), plenty, want)
			}
		}
	}
}

// P10.1: what stands behind the last sample isn't looked at, but for a digit,
// which would be of it.
func TestBehindIsNotLookedAt(t *testing.T) {
	for _, kind := range kinds() {
		for _, top := range []int{9, 999} {
			m := probe.Image(uint32(kind), 3, 2)
			file := strings.TrimRight(string(plainEncode(m, kind, top)), "\n")
			if !isText(kind) {
				file = string(plainEncode(m, kind, top))
			}
			for c := range 256 {
				if isText(kind) && isGraded(kind) && c >= '0' && c <= '9' {
					continue
				}
				wantImage(t, file+string([]byte{byte(c)}), plenty, rounded(m, kind, top))
			}
			for _, more := range []string{"", "\n", " 5", "\n\nP1 1 1 1", "#", "# more", " #", "#\n", "\x00\x00", string(probe.Noise(1, 5000))} {
				wantImage(t, file+more, plenty, rounded(m, kind, top))
			}
		}
	}
	for d := range 10 {
		wantFault(t, fmt.Sprint("P2 2 1 9 1 1", d), plenty, api.ErrMalformed)
		wantFault(t, fmt.Sprint("P2 2 1 9 1 000000001", d), plenty, api.ErrMalformed)
		wantImage(t, fmt.Sprint("P1 2 1 11", d), plenty, probe.Greys(2, 1, 0, 0))
	}
}

// P10.1: files that end too early, at each place.
func TestEndsTooEarly(t *testing.T) {
	for _, kind := range kinds() {
		for _, top := range []int{9, 255, 256, greatest} {
			// No number's beginning is a number that might stand there.
			m := probe.Greys(3, 3, slices.Repeat([]uint16{greatest}, 9)...)
			m.Pix[35] = 0
			file := string(plainEncode(m, kind, top))
			wantImage(t, file, plenty, rounded(m, kind, top))
			file = strings.TrimRight(file, "\n")
			if isText(kind) {
				file = file[:strings.LastIndex(file, " ")+1]
			}
			for n := range file {
				wantFault(t, file[:n], plenty, api.ErrMalformed)
			}
		}
	}
}
