package gif_test

import (
	"math"
	"slices"
	"testing"

	"darkroom/api"
	"darkroom/probe"
)

// P15.1: a file of MaxFile bytes is read, one more is too long, whatever it is.
func TestLongFiles(t *testing.T) {
	for _, b := range [][]byte{dot(), changed(dot(), atWidth, 0), changed(dot(), atWidth+1, 255), changed(dot(), 19, 0), dot()[:20], dot()[:10], nil, []byte("GIF")} {
		m, e := plainDecode(b, plenty)
		long := append(slices.Clone(b), make([]byte, api.MaxFile+2-len(b))...)
		switch {
		case e == api.OK:
			wantImage(t, long[:api.MaxFile], plenty, m)
		case e == api.ErrLimit:
			wantFault(t, long[:api.MaxFile], plenty, e)
		default:
			wantFault(t, long[:api.MaxFile], plenty, api.ErrMalformed)
		}
		for _, most := range []int{plenty, 0} {
			wantFault(t, long[:api.MaxFile+1], most, api.ErrLimit)
			wantFault(t, long, most, api.ErrLimit)
		}
	}
}

// P15.1: the longest files, of blocks that aren't looked at, of short sub-blocks, and
// of codes that write nothing.
func TestLongestFiles(t *testing.T) {
	t.Parallel()
	for _, x := range []struct{ begin, again, end []byte }{
		{nil, extra(254), nil},
		{nil, control(1), control(noHole)},
		{[]byte{33, 254}, []byte{1, 7}, []byte{0}},
		{[]byte{33, 249, 4, 0, 0, 0, 0}, []byte{1, 7}, []byte{0}},
	} {
		room := api.MaxFile - len(dot()) - len(x.begin) - len(x.end)
		extras := slices.Concat(x.begin, slices.Repeat(x.again, room/len(x.again)), x.end)
		b := slices.Insert(dot(), 19, extras...)
		b = append(b, make([]byte, api.MaxFile-len(b))...)
		wantImage(t, b, 1, dotImage())
	}
	f := file{width: 1, height: 1, palette: ramp(2), index: []byte{1}, size: 2}
	// Eight times clear, of three bits each.
	codes := slices.Repeat([]byte{0x24, 0x49, 0x92}, 1_380_000)
	wantImage(t, f.with(2, append(codes, f.codes()[1:]...)), 1, f.image(noHole))
	wantBroken(t, f.with(2, codes))
}

// P15.1: sizes that may be, the greatest ones among them, with as many pixels as
// there may be, and fewer.
func TestMost(t *testing.T) {
	t.Parallel()
	for i, s := range probe.Sizes() {
		f := noisy(uint32(i), s.W, s.H, 16)
		n := s.W * s.H
		dotted := file{width: s.W, height: s.H, place: api.Rect{W: 1, H: 1}, palette: ramp(2), index: []byte{1}}
		for _, f := range []file{f, dotted} {
			b, want := f.bytes(), f.image(noHole)
			wantImage(t, b, n, want)
			wantImage(t, b, n+1, want)
			wantImage(t, b, math.MaxInt, want)
			for _, most := range []int{n - 1, 0, -1, -n, math.MinInt} {
				wantFault(t, b, most, api.ErrLimit)
			}
		}
	}
}

// great are sizes that no image has.
func great() []probe.Size {
	return []probe.Size{
		{4097, 1}, {1, 4097}, {4096, 17}, {17, 4096}, {257, 256}, {256, 257}, {4096, 4096}, {4097, 4097},
		{65535, 1}, {1, 65535}, {65535, 65535}, {32768, 2}, {2, 32768}, {32768, 32768}, {8192, 8},
	}
}

// P15.1: sizes that may not be, however many pixels there may be and however small the
// picture is.
func TestTooGreat(t *testing.T) {
	for _, s := range great() {
		for _, place := range []api.Rect{{}, {W: 1, H: 1}, {X: s.W - 1, Y: s.H - 1, W: 1, H: 1}} {
			f := file{width: s.W, height: s.H, place: place, palette: ramp(2), index: []byte{1}}
			b := f.with(2, lzwOf(f.index, 2))
			if n := s.W * s.H; place == (api.Rect{}) && n < 70000 {
				b = f.with(2, lzwOf(make([]byte, n), 2))
			}
			for _, most := range []int{plenty, 1 << 62, math.MaxInt, 1, 0, -1, math.MinInt} {
				wantFault(t, b, most, api.ErrLimit)
			}
		}
	}
}

// P15.1: what is wrong up to the screen's palette goes ahead of a size that is too
// great, and that ahead of what is wrong behind it.
func TestOrderOfFaults(t *testing.T) {
	const most = 3
	for _, s := range append(great(), probe.Size{W: 4, H: 1}, probe.Size{W: 1, H: 4}, probe.Size{W: 2, H: 2}) {
		for _, behind := range [][]byte{nil, {59}, {33}, {33, 249, 0}, {33, 249, 3, 1, 2, 3, 0}, {44}, {44, 0, 0, 0, 0, 0, 0, 0, 0}, dot()[19:], dot()[19:30], control(99)} {
			for _, n := range []int{2, 256} {
				f := file{width: s.W, height: s.H, palette: ramp(n)}
				b := append(f.head(), behind...)
				wantFault(t, b, most, api.ErrLimit)
				wantFault(t, b[:len(b)-len(behind)-1], most, api.ErrMalformed)
				wantFault(t, changed(b, 0, 'g'), most, api.ErrMalformed)
				wantFault(t, changed(b, 4, '8'), most, api.ErrMalformed)
				for _, at := range []int{atWidth, atHeight} {
					wantFault(t, changed(changed(b, at, 0), at+1, 0), most, api.ErrMalformed)
				}
				f.palette = nil
				b = append(f.head(), behind...)
				wantFault(t, b, most, api.ErrLimit)
				wantFault(t, b[:atPalette-1], most, api.ErrMalformed)
			}
		}
	}
}
