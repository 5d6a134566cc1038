package inflate_test

import (
	"bytes"
	"compress/zlib"
	"math"
	"slices"
	"testing"

	"darkroom/api"
	"darkroom/inflate"
	"darkroom/probe"
)

func wantZlib(t *testing.T, b []byte, most int, out []byte) {
	t.Helper()
	if gotB, gotE := inflate.Zlib(b, most); !bytes.Equal(gotB, out) || gotE != api.OK {
		t.Errorf("Zlib(%s, %d) = %s, %d; want %s", probe.Short(b), most, probe.Short(gotB), gotE, probe.Short(out))
	}
}

func wantZlibFault(t *testing.T, b []byte, most int, e api.Errno) {
	t.Helper()
	if gotB, gotE := inflate.Zlib(b, most); len(gotB) != 0 || gotE != e {
		t.Errorf("Zlib(%s, %d) = %s, %d; want %d", probe.Short(b), most, probe.Short(gotB), gotE, e)
	}
}

// wrapped puts a head ahead of raw, and what out sums up to behind it.
func wrapped(raw, out []byte) []byte {
	s, t := 1, 0
	for _, x := range out {
		s = (s + int(x)) % 65521
		t = (t + s) % 65521
	}
	b := append([]byte{0x78, 0x9C}, raw...)
	return append(b, byte(t>>8), byte(t), byte(s>>8), byte(s))
}

func TestZlibExample(t *testing.T) {
	wantZlib(t, []byte{0x78, 0x9C, 0x4B, 4, 0, 0, 0x62, 0, 0x62}, 9, []byte("a"))
}

// Streams that are known from elsewhere.
func TestKnownZlib(t *testing.T) {
	wantZlib(t, []byte{0x78, 0x9C, 3, 0, 0, 0, 0, 1}, 0, nil)
	wantZlib(t, []byte{
		0x78, 1, 0x0B, 0xCF, 0xCC, 0xCE, 0x2C, 0x48, 0x4D, 0xC9, 0x4C, 4, 0, 0x11, 0xE6, 3, 0x98,
	}, 9, []byte("Wikipedia"))
	wantZlib(t, []byte{
		0x78, 0xDA, 0x1D, 0xC6, 0x49, 1, 0, 0, 0x10, 0x40, 0xC0, 0xAC, 0xA3, 0x7F, 0x88, 0x3D, 0x3C,
		0x20, 0x2A, 0x97, 0x9D, 0x37, 0x5E, 0x1D, 0x0C, 0xEF, 0xF9, 0x0D, 0x54,
	}, 35, []byte("abaabbbabaababbaababaaaabaaabbbbbaa"))
}

// P4.2: fewer than two bytes are too few, whatever they are.
func TestZlibOfFewBytes(t *testing.T) {
	for _, most := range []int{math.MinInt, 0, math.MaxInt} {
		wantZlibFault(t, nil, most, api.ErrEnd)
		wantZlibFault(t, []byte{}, most, api.ErrEnd)
		for x := range 256 {
			wantZlibFault(t, []byte{byte(x)}, most, api.ErrEnd)
		}
	}
}

// P4.2: all heads that there may be, ahead of what is good, is broken, is
// nothing.
func TestZlibHeads(t *testing.T) {
	good := wrapped([]byte{0x4B, 4, 0}, []byte("a"))
	broken := []byte{0, 0, 7, 1, 2, 3, 4, 5}
	for first := range 256 {
		for second := range 256 {
			head := []byte{byte(first), byte(second)}
			copy(good, head)
			copy(broken, head)
			if first&15 == 8 && first>>4 <= 7 && (first<<8+second)%31 == 0 && second>>5&1 == 0 {
				wantZlib(t, good, 1, []byte("a"))
				wantZlibFault(t, broken, 1, api.ErrBlock)
				wantZlibFault(t, head, 1, api.ErrEnd)
				continue
			}
			for _, b := range [][]byte{good, broken, head} {
				wantZlibFault(t, b, 1, api.ErrHead)
			}
		}
	}
}

// P4.2: each fault of a head by itself, the others' looks being content.
func TestZlibHeadFaults(t *testing.T) {
	for _, head := range [][2]byte{
		{0x77, 0x85}, {0x79, 0x9B}, {0x70, 0x9E}, {0x7F, 0x9A},
		{0x88, 0x9A}, {0x98, 0x98}, {0xF8, 0x8C},
		{0x78, 0x9D}, {0x78, 0x9B}, {0x78, 0x00}, {0x78, 0xFF}, {0x9C, 0x78},
		{0x78, 0xBB}, {0x78, 0x20}, {0x78, 0x3F}, {0x78, 0xF9},
	} {
		wantZlibFault(t, append(head[:], 0x4B, 4, 0, 0, 0x62, 0, 0x62), 9, api.ErrHead)
	}
	for _, head := range [][2]byte{
		{0x78, 0x01}, {0x78, 0x5E}, {0x78, 0x9C}, {0x78, 0xDA}, {0x08, 0x1D}, {0x18, 0x19}, {0x68, 0x81},
	} {
		wantZlib(t, append(head[:], 0x4B, 4, 0, 0, 0x62, 0, 0x62), 9, []byte("a"))
	}
}

// P4.2: the window that the head tells of is no bound for a distance.
func TestZlibWindow(t *testing.T) {
	written := probe.Noise(1, 32768)
	p := fixed()
	raw := append(storedBytes(further, written), pack(head(last, 1)+p.match(258, 32768)+p.end(), "0")...)
	out := append(bytes.Clone(written), written[:258]...)
	b := wrapped(raw, out)
	wantZlib(t, b, plenty, out)
	b[0], b[1] = 0x08, 0x1D
	wantZlib(t, b, plenty, out)
}

// P4.2: what Raw says of what stands behind the head goes ahead of the sum.
func TestZlibOfBrokenStreams(t *testing.T) {
	p := fixed()
	for e, raw := range map[api.Errno][]byte{
		api.ErrBlock: {7},
		api.ErrTable: {0xFD, 0xFF, 0xFF},
		api.ErrEnd:   pack(head(last, 1)+p.literal('a'), "0"),
		api.ErrCode:  pack(head(last, 1)+p.literal(287), "0"),
		api.ErrFar:   pack(head(last, 1)+p.match(3, 1)+p.end(), "0"),
		api.ErrLong:  pack(head(last, 1)+p.bytes([]byte("abcd"))+p.end(), "0"),
	} {
		wantFault(t, raw, 3, e)
		for _, tail := range [][]byte{nil, {0, 0, 0, 1}, {0xFF, 0xFF, 0xFF}} {
			if e != api.ErrEnd || len(tail) == 0 {
				wantZlibFault(t, append(append([]byte{0x78, 0x9C}, raw...), tail...), 3, e)
			}
		}
	}
}

// P4.2: most is Raw's.
func TestZlibMost(t *testing.T) {
	out := probe.Noise(6, 100)
	b := wrapped(pack(head(last, 1)+fixed().bytes(out)+fixed().end(), "0"), out)
	for _, most := range []int{100, 101, math.MaxInt} {
		wantZlib(t, b, most, out)
	}
	for _, most := range []int{99, 1, 0, -1, math.MinInt} {
		wantZlibFault(t, b, most, api.ErrLong)
		wantZlibFault(t, b[:len(b)-4], most, api.ErrLong)
	}
	none := wrapped([]byte{3, 0}, nil)
	for _, most := range []int{0, -1, math.MinInt} {
		wantZlib(t, none, most, nil)
	}
}

// zlibCases are some streams and what was deflated into them; they end at all
// bits of a byte.
func zlibCases() [][2][]byte {
	p := fixed()
	cases := [][2][]byte{{{3, 0}, nil}, {storedBytes(last, probe.Noise(3, 70)), probe.Noise(3, 70)}}
	for n := range 9 {
		b := probe.Noise(uint32(n), n)
		for i := range b {
			b[i] |= 144 // a code of nine bits
		}
		cases = append(cases, [2][]byte{pack(head(last, 1)+p.bytes(b)+p.end(), "1"), b})
	}
	return cases
}

// P4.2: the sum begins behind the last byte that was begun; each of its bits
// tells; of its bytes none may be missing; what stands behind isn't looked at.
func TestZlibSum(t *testing.T) {
	for _, c := range zlibCases() {
		b := wrapped(c[0], c[1])
		wantZlib(t, b, plenty, c[1])
		for bit := range 32 {
			wrong := bytes.Clone(b)
			wrong[len(b)-4+bit/8] ^= 1 << (bit % 8)
			wantZlibFault(t, wrong, plenty, api.ErrSum)
		}
		for _, tail := range [][]byte{{0}, {0xFF}, {0, 0, 0, 1}, probe.Noise(5, 40), b} {
			wantZlib(t, append(bytes.Clone(b), tail...), plenty, c[1])
			wrong := append(bytes.Clone(b), tail...)
			wrong[len(b)-1]++
			wantZlibFault(t, wrong, plenty, api.ErrSum)
		}
		for n := range len(b) {
			wantZlibFault(t, b[:n], plenty, api.ErrEnd)
			wrong := bytes.Clone(b)
			wrong[len(c[0])+2]++
			wantZlibFault(t, wrong[:n], plenty, api.ErrEnd)
		}
		turned := bytes.Clone(b)
		slices.Reverse(turned[len(b)-4:])
		wantZlibFault(t, turned, plenty, api.ErrSum)
	}
}

// P4.2: what another program wraps.
func TestZlibOfTheLibrary(t *testing.T) {
	for name, out := range texts() {
		for level := -2; level <= 9; level++ {
			var w bytes.Buffer
			z, err := zlib.NewWriterLevel(&w, level)
			if err != nil {
				t.Fatal(err)
			}
			z.Write(out)
			z.Close()
			b := w.Bytes()
			wantZlib(t, b, len(out), out)
			wantZlib(t, append(b, 1, 2, 3), plenty, out)
			if len(out) > 0 {
				wantZlibFault(t, b, len(out)-1, api.ErrLong)
			}
			wantZlibFault(t, b[:len(b)-1], plenty, api.ErrEnd)
			b[len(b)-1] ^= 4
			wantZlibFault(t, b, plenty, api.ErrSum)
			if t.Failed() {
				t.Fatal(name, level)
			}
		}
	}
}
