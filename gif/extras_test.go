package gif_test

import (
	"slices"
	"strings"
	"testing"

	"darkroom/probe"
)

// withExtras answers a file whose first pixel's index is 1 of two, its second's 0, with
// these blocks ahead of its picture.
func withExtras(extras ...[]byte) file {
	return file{width: 2, height: 1, palette: []byte{255, 255, 255, 255, 0, 0}, extras: extras, index: []byte{1, 0}}
}

// wantHole wants a clear index of such blocks, or none.
func wantHole(t *testing.T, hole int, extras ...[]byte) {
	t.Helper()
	f := withExtras(extras...)
	wantImage(t, f.bytes(), 2, f.image(hole))
}

// P15.1: blocks of all kinds are let be, whatever is in them, if they are of
// sub-blocks.
func TestExtras(t *testing.T) {
	long := strings.Repeat("x", 255)
	for kind := range 256 {
		for _, parts := range [][]string{nil, {"a"}, {"abcd"}, {"\x01\x00\x00\x01"}, {"NETSCAPE2.0", "\x01\x00\x00"}, {long}, {long, long, "y"}, {"\x00"}, {"\x00", ",", ";", "!"}} {
			b := extra(byte(kind), parts...)
			if kind != 249 {
				wantHole(t, noHole, b)
				wantHole(t, 0, control(0), b)
				wantHole(t, 1, b, b, control(1), b)
				wantHole(t, noHole, control(1), b, control(noHole), b)
			}
			broken := withExtras(b[:len(b)-1])
			wantBroken(t, slices.Concat(broken.head(), b[:len(b)-1]))
		}
	}
}

// P15.1: a control's first sub-block has four bytes; others may stand behind it, and
// aren't looked at.
func TestControls(t *testing.T) {
	for n := range 256 {
		first := "\x01\x00\x00\x01" + strings.Repeat("\x01", 251)
		b := extra(249, first[:n])
		if n == 0 {
			b = extra(249)
		}
		if n == 4 {
			wantHole(t, 1, b)
		} else {
			wantBroken(t, withExtras(b).bytes())
			wantBroken(t, withExtras(b, control(0)).bytes())
			wantBroken(t, withExtras(control(0), b).bytes())
		}
		if n > 0 {
			more := extra(249, "\x01\x00\x00\x00", first[:n], "\x01\x00\x00\x01", first[:n])
			wantHole(t, 0, more)
			if n != 4 {
				wantBroken(t, withExtras(extra(249, first[:n], "\x01\x00\x00\x01")).bytes())
			}
		}
	}
	// A block without a sub-block, and one whose first is where another's second is.
	wantBroken(t, withExtras([]byte{33, 249, 0}).bytes())
	wantBroken(t, withExtras([]byte{33, 249, 0, 4, 1, 0, 0, 1, 0}).bytes())
}

// P15.1: a bit of a control's first byte tells whether there is a clear index; the
// next two aren't looked at.
func TestControlBytes(t *testing.T) {
	for x := range 256 {
		hole := noHole
		if x%2 == 1 {
			hole = 1
		}
		wantHole(t, hole, []byte{33, 249, 4, byte(x), 0, 0, 1, 0})
		wantHole(t, 1, []byte{33, 249, 4, 1, byte(x), 0, 1, 0})
		wantHole(t, 1, []byte{33, 249, 4, 1, 0, byte(x), 1, 0})
		wantHole(t, noHole, []byte{33, 249, 4, 0, 0, 0, byte(x), 0})
		// The clear index has an entry, also if no pixel has it.
		if x < 2 {
			wantHole(t, x, []byte{33, 249, 4, 1, 0, 0, byte(x), 0})
		} else {
			wantBroken(t, withExtras([]byte{33, 249, 4, 1, 0, 0, byte(x), 0}).bytes())
		}
	}
}

// P15.1: of several controls the last one counts, also if it tells of no clear index;
// what an earlier one tells needs no entry.
func TestLastControl(t *testing.T) {
	for _, a := range []int{noHole, 0, 1, 2, 255} {
		for _, b := range []int{noHole, 0, 1, 2, 255} {
			for _, c := range []int{noHole, 0, 1} {
				wantHole(t, c, control(a), control(b), control(c))
				wantHole(t, c, control(a), extra(254, "a"), control(b), control(c), extra(1, "abcd"))
			}
			if b > 1 {
				wantBroken(t, withExtras(control(a), control(b)).bytes())
			}
		}
	}
}

// P15.1: a clear index is each place of a palette, the screen's or the picture's own;
// all pixels of it are clear, whatever the entry is.
func TestHoles(t *testing.T) {
	for n := 2; n <= 256; n *= 2 {
		for hole := range 256 {
			if hole > n+1 && hole < 255 && hole%31 > 0 {
				continue
			}
			f := noisy(uint32(hole), 9, 7, n)
			f.extras = [][]byte{control(hole)}
			f.index[5], f.index[60] = byte(hole%n), byte(hole%n)
			own := f
			own.palette, own.own = ramp(256), f.palette
			small := f
			small.palette, small.own = ramp(2), f.palette
			if hole < n {
				wantImage(t, f.bytes(), 63, f.image(hole))
				wantImage(t, own.bytes(), 63, own.image(hole))
				wantImage(t, small.bytes(), 63, small.image(hole))
			} else {
				wantBroken(t, f.bytes())
				wantBroken(t, own.bytes())
			}
		}
	}
	// An entry of the same colour isn't clear.
	f := file{width: 3, height: 1, palette: []byte{1, 2, 3, 1, 2, 3}, extras: [][]byte{control(1)}, index: []byte{0, 1, 0}}
	wantImage(t, f.bytes(), 3, probe.Row(probe.Eight(1, 2, 3), hole, probe.Eight(1, 2, 3)))
}

// P15.1: ahead of a picture there is no byte but those that blocks begin with.
func TestNoBlocks(t *testing.T) {
	for x := range 256 {
		if x == 33 || x == 44 {
			continue
		}
		for _, ahead := range [][]byte{nil, control(1), extra(254, "a")} {
			wantBroken(t, withExtras(ahead, []byte{byte(x)}).bytes())
			wantBroken(t, withExtras([]byte{byte(x)}, ahead).bytes())
			wantBroken(t, withExtras(ahead, extra(byte(x), "a")[1:]).bytes())
			wantBroken(t, slices.Concat(withExtras().head(), ahead, []byte{byte(x)}))
		}
	}
	wantBroken(t, withExtras().head())
	wantBroken(t, append(withExtras().head(), 59))
}

// P15.1: nothing behind the picture is looked at.
func TestBehind(t *testing.T) {
	f := withExtras(control(0))
	b := f.bytes()
	b = b[:len(b)-1]
	other := withExtras(control(1))
	for x := range 256 {
		wantImage(t, append(slices.Clone(b), byte(x)), 2, f.image(0))
	}
	for _, behind := range [][]byte{nil, {59}, {33}, {33, 249}, control(1), {33, 249, 9}, {44}, dot(), f.picture(99, nil), slices.Concat(control(1), other.bytes()), probe.Noise(1, 5000)} {
		wantImage(t, slices.Concat(b, behind), 2, f.image(0))
		wantImage(t, slices.Concat(b, []byte{59}, behind), 2, f.image(0))
	}
}
