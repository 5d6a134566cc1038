package lzw_test

import (
	"bytes"
	"math"
	"slices"
	"testing"

	"darkroom/api"
	"darkroom/lzw"
	"darkroom/probe"
)

// plainRuns answers what runs are read as, told by the chapter.
func plainRuns(b []byte, most int) ([]byte, api.Errno) {
	var out []byte
	for at := 0; at < len(b); {
		n := int(b[at])
		at++
		var piece []byte
		switch {
		case n < 128:
			if at+n+1 > len(b) {
				return nil, api.ErrEnd
			}
			piece = b[at : at+n+1]
			at += n + 1
		case n > 128:
			if at == len(b) {
				return nil, api.ErrEnd
			}
			piece = probe.Alike(b[at], 257-n)
			at++
		}
		if len(piece) > 0 && len(out)+len(piece) > most {
			return nil, api.ErrLong
		}
		out = append(out, piece...)
	}
	return out, api.OK
}

// wantUnpack asks for what b is read as, or for its fault.
func wantUnpack(t *testing.T, b []byte, most int, out []byte, fault api.Errno) {
	t.Helper()
	if x, e := lzw.Unpack(b, most); e != fault || !bytes.Equal(x, out) {
		t.Fatalf("Unpack(%s, %d) = %s, %d; want %s, %d", probe.Short(b), most, probe.Short(x), e, probe.Short(out), fault)
	}
}

func wantUnpackAsTold(t *testing.T, b []byte, most int) {
	t.Helper()
	out, fault := plainRuns(b, most)
	wantUnpack(t, b, most, out, fault)
}

// wantRuns answers b packed, which it asks to be read as b and to keep the
// bounds.
func wantRuns(t *testing.T, b []byte) []byte {
	t.Helper()
	x := lzw.Pack(b)
	wantUnpack(t, x, len(b), b, api.OK)
	if y, e := plainRuns(x, len(b)); e != api.OK || !bytes.Equal(y, b) {
		t.Fatalf("Pack(%s) = %s, thus %s, %d", probe.Short(b), probe.Short(x), probe.Short(y), e)
	}
	begun := (len(b) + 127) / 128
	most := len(b) + begun
	if len(b) > 0 && bytes.Count(b, b[:1]) == len(b) {
		most = 2 * begun
	}
	if len(x) > most {
		t.Fatalf("Pack(%s) takes %d; want at most %d", probe.Short(b), len(x), most)
	}
	return x
}

func TestRunsExamples(t *testing.T) {
	wantUnpack(t, []byte{0x02, 0x61, 0x62, 0x63, 0xFE, 0x64}, 6, []byte("abcddd"), api.OK)
	wantUnpack(t, []byte{0x81}, 1000, nil, api.ErrEnd)
	if x := wantRuns(t, make([]byte, 200)); len(x) != 4 {
		t.Errorf("200 noughts are packed as %x", x)
	}
}

// P6.3: each sign with all that it speaks of, with more behind it, cut off at
// each place, and with just most, one less and none.
func TestUnpackEachSign(t *testing.T) {
	noise := probe.Noise(1, 200)
	for n := range 256 {
		length, out := 0, []byte(nil)
		switch {
		case n < 128:
			length, out = n+1, noise[:n+1]
		case n > 128:
			length, out = 1, probe.Alike(noise[0], 257-n)
		}
		b := append([]byte{byte(n)}, noise[:length]...)
		wantUnpack(t, b, len(out), out, api.OK)
		wantUnpack(t, b, math.MaxInt, out, api.OK)
		for cut := 1; cut < len(b); cut++ {
			for _, most := range []int{1000, len(out), len(out) - 1, 0, -1} {
				wantUnpack(t, b[:cut], most, nil, api.ErrEnd)
			}
		}
		more := append(bytes.Clone(b), 1, 'x', 'y', 0xFF, 'z')
		wantUnpack(t, more, len(out)+4, append(bytes.Clone(out), "xyzz"...), api.OK)
		for cut := len(b) + 1; cut < len(more); cut++ {
			if cut != len(b)+3 {
				wantUnpack(t, more[:cut], 1000, nil, api.ErrEnd)
			}
		}
		for _, most := range []int{len(out) - 1, 0, -1, math.MinInt} {
			if len(out) > 0 {
				wantUnpack(t, b, most, nil, api.ErrLong)
			}
		}
		wantUnpack(t, more, len(out)+3, nil, api.ErrLong)
	}
}

// P6.3: the byte 128 says nothing, wherever it stands.
func TestUnpackNothingSaid(t *testing.T) {
	for n := range 5 {
		b := probe.Alike(128, n)
		for _, most := range []int{0, -1, math.MinInt, 3, math.MaxInt} {
			wantUnpack(t, b, most, nil, api.OK)
		}
		wantUnpack(t, slices.Concat(b, []byte{0, 128}, b, []byte{0xFF, 128}, b), 3, []byte{128, 128, 128}, api.OK)
		wantUnpack(t, slices.Concat(b, []byte{0, 1}, b, []byte{129}), 1000, nil, api.ErrEnd)
	}
}

// P6.3: of faults the first one that is met; where both are met at one sign,
// ErrEnd.
func TestUnpackRunsFaultsInOrder(t *testing.T) {
	wantUnpack(t, []byte{1, 5}, 0, nil, api.ErrEnd)
	wantUnpack(t, []byte{127}, 0, nil, api.ErrEnd)
	wantUnpack(t, []byte{129}, 0, nil, api.ErrEnd)
	wantUnpack(t, []byte{0, 7, 255}, 1, nil, api.ErrEnd)
	wantUnpack(t, []byte{0, 7, 3, 1, 2, 3}, 2, nil, api.ErrEnd)
	wantUnpack(t, []byte{1, 7, 8, 255}, 1, nil, api.ErrLong)
	wantUnpack(t, []byte{255, 7, 1, 2}, 1, nil, api.ErrLong)
}

// P6.3: all short streams of signs of each sort, with all kinds of most.
func TestUnpackRunsAsTold(t *testing.T) {
	t.Parallel()
	signs := []byte{0, 1, 2, 127, 128, 129, 254, 255}
	for _, places := range shortTexts(len(signs), 5) {
		b := make([]byte, len(places))
		for i, p := range places {
			b[i] = signs[p]
		}
		for _, most := range []int{0, 1, 2, 3, 4, 127, 128, 1000} {
			wantUnpackAsTold(t, b, most)
		}
	}
	for i := range uint32(3000) {
		b := probe.Noise(i, int(i)%900)
		wantUnpackAsTold(t, b, 1<<20)
		wantUnpackAsTold(t, b, int(i)%2000)
	}
}

// P6.3: bytes all alike, of many lengths, those of just one run and of two with
// one less and one more among them.
func TestPackRunsAlike(t *testing.T) {
	if x := lzw.Pack(nil); len(x) != 0 {
		t.Errorf("nothing is packed as %x", x)
	}
	for n := range 2000 {
		wantRuns(t, probe.Alike(byte(n), n))
	}
	for x := range 256 {
		for _, n := range []int{1, 2, 3, 128, 129, 130, 131, 1000} {
			wantRuns(t, probe.Alike(byte(x), n))
		}
	}
	wantRuns(t, make([]byte, 1<<20))
}

// P6.3: bytes without runs, of many lengths.
func TestPackWithoutRuns(t *testing.T) {
	none := probe.NoneAgain(3000)[3:]
	for n := range 800 {
		wantRuns(t, none[:n])
	}
	wantRuns(t, probe.NoneAgain(65536))
	wantRuns(t, probe.Noise(1, 1<<18))
}

// P6.3: all short texts of two and of three letters.
func TestPackRunsShortTexts(t *testing.T) {
	t.Parallel()
	for _, b := range slices.Concat(shortTexts(2, 14), shortTexts(3, 9)) {
		wantRuns(t, b)
	}
}

// turns puts a run of each length behind the other, each of another byte.
func turns(lengths ...int) []byte {
	var b []byte
	for i, n := range lengths {
		b = append(b, probe.Alike(byte(i*37), n)...)
	}
	return b
}

// P6.3: runs of all lengths between bytes that come singly, so many that they
// take just one piece, two, and one more or less: the bounds are reached there.
func TestPackRunsBetweenSingleBytes(t *testing.T) {
	t.Parallel()
	for _, singly := range []int{0, 1, 2, 3, 124, 125, 126, 127, 128, 129, 130, 253, 254, 255, 256, 257, 258} {
		for _, run := range []int{1, 2, 3, 4, 127, 128, 129, 130, 131, 256, 257, 258} {
			piece := append(slices.Repeat([]int{1}, singly), run)
			for times := 1; times <= 6; times++ {
				all := slices.Repeat(piece, times)
				for tail := range 4 {
					wantRuns(t, turns(append(slices.Clone(all), slices.Repeat([]int{1}, tail)...)...))
					wantRuns(t, turns(append(slices.Clone(all), slices.Repeat([]int{2}, tail)...)...))
				}
			}
		}
	}
}

// P6.3: runs of lengths in all orders.
func TestPackRunsByTurns(t *testing.T) {
	t.Parallel()
	lengths := []int{1, 2, 3, 128, 129, 130}
	for _, places := range shortTexts(len(lengths), 5) {
		var all []int
		for _, p := range places {
			all = append(all, lengths[p])
		}
		wantRuns(t, turns(all...))
	}
	for i := range uint32(400) {
		var all []int
		for _, x := range probe.Noise(i, 200) {
			all = append(all, []int{1, 1, 1, 1, 2, 2, 3, 3, 4, int(x), 1, 2, 1, 1, 1, 2}[x%16])
		}
		wantRuns(t, turns(all...))
	}
}

// P6.3, P6.4: texts of all kinds, packed again and again.
func TestPackRunsOfTexts(t *testing.T) {
	for _, x := range probe.Texts() {
		b := x.B
		for range 4 {
			b = wantRuns(t, b)
		}
	}
	for i := range uint32(300) {
		wantRuns(t, probe.Few(i, int(i)*5, 2+int(i)%4))
	}
}
