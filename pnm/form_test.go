package pnm_test

import (
	"fmt"
	"strings"
	"testing"

	"darkroom/api"
	"darkroom/probe"
)

// pieces are a file's kind, its numbers and its samples: gaps stand between them,
// but for a space ahead of packed samples.
func pieces(kind int) (list []string, want api.Image) {
	switch kind {
	case 1:
		return []string{"P1", "2", "1", "0", "1"}, probe.Greys(2, 1, greatest, 0)
	case 2:
		return []string{"P2", "2", "1", "99", "0", "99"}, probe.Greys(2, 1, 0, greatest)
	case 3:
		return []string{"P3", "1", "1", "15", "0", "1", "15"}, probe.Solid(1, 1, 0, 4369, greatest)
	case 4:
		return []string{"P4", "2", "1", "\x40"}, probe.Greys(2, 1, greatest, 0)
	case 5:
		return []string{"P5", "2", "1", "255", "\x00\x01"}, probe.Greys(2, 1, 0, 257)
	}
	return []string{"P6", "1", "1", "255", "123"}, probe.Solid(1, 1, 49*257, 50*257, 51*257)
}

// spacing answers a file of the pieces of a kind, with this between two of them,
// and plain spaces between all others.
func spacing(kind, place int, between string) string {
	list, _ := pieces(kind)
	return strings.Join(list[:place], " ") + between + strings.Join(list[place:], " ")
}

// places are those where there is a gap: all, but for the one ahead of packed
// samples.
func places(kind int) int {
	list, _ := pieces(kind)
	if isText(kind) {
		return len(list) - 1
	}
	return len(list) - 2
}

// mayDo says whether nothing at all may stand between two pieces.
func mayDo(kind, place int) bool { return kind == 1 && place > 3 }

// P10.1: of all bytes six are a gap, of all pairs of bytes those of such.
func TestSpaces(t *testing.T) {
	const spaces = "\t\n\v\f\r "
	for _, kind := range kinds() {
		_, want := pieces(kind)
		for place := 1; place <= places(kind); place++ {
			for c := range 256 {
				if strings.IndexByte("0123456789", byte(c)) >= 0 {
					continue
				}
				one := string([]byte{byte(c)})
				if strings.Contains(spaces, one) {
					wantImage(t, spacing(kind, place, one), plenty, want)
					wantImage(t, spacing(kind, place, one+"\n"), plenty, want)
					wantImage(t, spacing(kind, place, "\t"+one+" "), plenty, want)
					continue
				}
				wantFault(t, spacing(kind, place, one), plenty, api.ErrMalformed)
				if one != "#" {
					wantFault(t, spacing(kind, place, one+"\n"), plenty, api.ErrMalformed)
					wantFault(t, spacing(kind, place, "\n"+one), plenty, api.ErrMalformed)
				}
			}
			wantImage(t, spacing(kind, place, spaces), plenty, want)
			wantImage(t, spacing(kind, place, strings.Repeat(spaces, 500)), plenty, want)
			if file := spacing(kind, place, ""); mayDo(kind, place) {
				wantImage(t, file, plenty, want)
			} else if m, e := plainDecode([]byte(file), plenty); e == api.OK {
				t.Errorf("%q = %s", file, probe.Told(m))
			}
		}
	}
}

// P10.1: no gap at all, where one has to be, told one by one.
func TestNoGap(t *testing.T) {
	for _, file := range []string{"P22 1 9 1 1", "P2 21 9 1", "P2 2 19 1 1", "P2 2 1 91 1", "P2 2 1 9 11", "P11 1 1", "P1 1 11", "P1 2 10", "P3 1 1 9 111", "P5 1 1255\n1", "P4 11 \x80"} {
		wantFault(t, file, plenty, api.ErrMalformed)
	}
	wantFault(t, "P2 2 1 9 1x1", plenty, api.ErrMalformed)
	wantFault(t, "P2 2 1 9 1,1", plenty, api.ErrMalformed)
}

// P10.1: remarks in gaps: behind a space and ahead of one, several, empty ones;
// a byte 10 or 13 ends them, and no other.
func TestRemarks(t *testing.T) {
	good := []string{
		"#\n", "#\r", "#x\n", "#x\r", " #\n", " # a remark\n", "# a remark\n ", "\n#\n", "#\n#\n", "#1\r#2\n", " #a\n #b\r ", "##\n", "# # #\r", "#\r\n", "#0 1 2 3\n",
		"#\x00\xFF\x80\t\v\f \n", "\t#" + strings.Repeat("#", 3000) + "\r", "#P1 1 1 1\n", "#" + string(probe.Few(1, 500, 10)) + "\n", strings.Repeat("#\n", 2000),
	}
	bad := []string{"#", "# ", "#x", " #x", " #", "\n#x\t", "#\v", "#\f", "#\x85", "#\x00", "#\t", "#\xE2\x80\xA8", "#\n#", "#a\n#b ", "/\n", " /* */ ", "\n;\n", "x#\n", "#\nx", "#\n x#\n"}
	for _, kind := range kinds() {
		_, want := pieces(kind)
		for place := 1; place <= places(kind); place++ {
			for _, s := range good {
				wantImage(t, spacing(kind, place, s), plenty, want)
			}
			for _, s := range bad {
				wantFault(t, spacing(kind, place, s), plenty, api.ErrMalformed)
			}
		}
	}
	wantImage(t, "P1 6 1 #\n1#\n0#a\n#b\r 1\r0 #\n 0#1\n1", plenty, probe.Greys(6, 1, 0, greatest, 0, greatest, greatest, 0))
}

// P10.1: ahead of packed samples stands one space: what is behind it is a sample,
// whatever it looks like.
func TestOneSpace(t *testing.T) {
	for _, kind := range []int{4, 5, 6} {
		_, want := pieces(kind)
		last := places(kind) + 1
		for c := range 256 {
			one := string([]byte{byte(c)})
			switch file := spacing(kind, last, one); {
			case strings.Contains("\t\n\v\f\r ", one):
				wantImage(t, file, plenty, want)
			case c < '0' || c > '9':
				wantFault(t, file, plenty, api.ErrMalformed)
			}
		}
		for _, s := range []string{"#\n", "#x\n ", "#\n#\n", "", "#"} {
			if kind != 6 || s != "" { // There the samples are digits.
				wantFault(t, spacing(kind, last, s), plenty, api.ErrMalformed)
			}
		}
	}
	wantImage(t, "P4 8 1\n ", plenty, probe.Greys(8, 1, greatest, greatest, 0, greatest, greatest, greatest, greatest, greatest))
	wantImage(t, "P4 2 1  \xFF", plenty, probe.Greys(2, 1, greatest, greatest))
	wantImage(t, "P5 1 1 255 #", plenty, probe.Greys(1, 1, 35*257))
	wantImage(t, "P5 1 1 255\n\n", plenty, probe.Greys(1, 1, 10*257))
	wantImage(t, "P5 2 1 255\r\n#", plenty, probe.Greys(2, 1, 10*257, 35*257))
	wantImage(t, "P6 1 1 255 \t\r ", plenty, probe.Solid(1, 1, 9*257, 13*257, 32*257))
	wantImage(t, "P5 1 1 65535 # ", plenty, probe.Greys(1, 1, 35*256+32))
}

// P10.1: numbers of one to nine digits, noughts ahead, and what is no number.
func TestNumbers(t *testing.T) {
	for n := range 11 {
		noughts := strings.Repeat("0", n)
		for _, kind := range kinds() {
			list, want := pieces(kind)
			for place, s := range list {
				if place == 0 || !isText(kind) && place == len(list)-1 || kind == 1 && place > 2 {
					continue
				}
				list[place] = noughts + s
				if file := strings.Join(list, " "); n+len(s) <= 9 {
					wantImage(t, file, plenty, want)
				} else {
					wantFault(t, file, plenty, api.ErrMalformed)
				}
				list[place] = s
			}
		}
	}
	for _, s := range []string{"", "+1", "-1", "1.", "1.0", "1e0", "0x1", "one", "\xB2", "1_", "_1", "1,", "x1", "1x", "'1'", "\u0661", "1-", "1+", "1/", "1:"} {
		for _, kind := range kinds() {
			list, _ := pieces(kind)
			for place := 1; place <= places(kind); place++ {
				ahead := list[place]
				list[place] = s
				file := strings.Join(list, " ")
				list[place] = ahead
				if place == len(list)-1 && len(s) > 1 && s[0] >= '0' && s[0] <= '9' {
					continue // What is behind the last sample isn't looked at.
				}
				wantFault(t, file, plenty, api.ErrMalformed)
			}
		}
	}
}

// P10.1: of kind 1 two digits are two samples, a nought ahead is one too.
func TestDigits(t *testing.T) {
	wantImage(t, "P1 2 1 01", plenty, probe.Greys(2, 1, greatest, 0))
	wantImage(t, "P1 1 1 01", plenty, probe.Greys(1, 1, greatest))
	wantImage(t, "P1 12 1 010101 010101", plenty, probe.Greys(12, 1, greatest, 0, greatest, 0, greatest, 0, greatest, 0, greatest, 0, greatest, 0))
	wantFault(t, "P1 3 1 0 1", plenty, api.ErrMalformed)
}

// P10.1: width, height and top value are 1 or more, the top value 65535 or less.
func TestHeadNumbers(t *testing.T) {
	for _, kind := range kinds() {
		for _, nought := range []string{"0", "000000000"} {
			list, _ := pieces(kind)
			for place := 1; place <= 2 || isGraded(kind) && place == 3; place++ {
				ahead := list[place]
				list[place] = nought
				wantFault(t, strings.Join(list, " "), plenty, api.ErrMalformed)
				list[place] = ahead
			}
		}
	}
	for _, kind := range []int{2, 3, 5, 6} {
		rest := " 0 0 0 0 0 0"
		for _, top := range []int{65536, 65537, 99999, 131071, 999999999} {
			wantFault(t, fmt.Sprint("P", kind, " 1 1 ", top, rest), plenty, api.ErrMalformed)
		}
		if m, e := plainDecode([]byte(fmt.Sprint("P", kind, " 1 1 65535", rest)), plenty); e != api.OK {
			t.Error(kind, m, e)
		}
	}
	// Of the other kinds no top value stands there: it is a sample, or several.
	wantImage(t, "P1 1 1 1", plenty, probe.Greys(1, 1, 0))
	wantImage(t, "P1 2 1 1 1", plenty, probe.Greys(2, 1, 0, 0))
	wantImage(t, "P4 1 1 1 ", plenty, probe.Greys(1, 1, greatest))
}
