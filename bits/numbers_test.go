package bits_test

import (
	"bytes"
	"math"
	"testing"

	"darkroom/api"
	"darkroom/bits"
	"darkroom/probe"
)

func wantGet(t *testing.T, b []byte, at, size int, big bool, v uint32, e api.Errno) {
	t.Helper()
	if gotV, gotE := bits.Get(b, at, size, big); gotV != v || gotE != e {
		t.Errorf("Get(%x, %d, %d, %v) = %#x, %d; want %#x, %d", b, at, size, big, gotV, gotE, v, e)
	}
}

func wantSet(t *testing.T, b []byte, at, size int, big bool, v uint32, c []byte, e api.Errno) {
	t.Helper()
	if gotC, gotE := bits.Set(b, at, size, big, v); !bytes.Equal(gotC, c) || gotE != e {
		t.Errorf("Set(%x, %d, %d, %v, %#x) = %x, %d; want %x, %d", b, at, size, big, v, gotC, gotE, c, e)
	}
}

func TestGet(t *testing.T) {
	b := []byte{1, 2, 3, 0xF4, 5}
	wantGet(t, b, 0, 2, true, 258, api.OK)
	wantGet(t, b, 0, 2, false, 513, api.OK)
	for _, big := range []bool{true, false} {
		wantGet(t, b, 0, 1, big, 1, api.OK)
		wantGet(t, b, 3, 1, big, 0xF4, api.OK)
		wantGet(t, b, 4, 1, big, 5, api.OK)
	}
	wantGet(t, b, 1, 3, true, 0x0203F4, api.OK)
	wantGet(t, b, 1, 3, false, 0xF40302, api.OK)
	wantGet(t, b, 0, 4, true, 0x010203F4, api.OK)
	wantGet(t, b, 0, 4, false, 0xF4030201, api.OK)
	wantGet(t, b, 1, 4, true, 0x0203F405, api.OK)
	wantGet(t, b, 1, 4, false, 0x05F40302, api.OK)
	if !bytes.Equal(b, []byte{1, 2, 3, 0xF4, 5}) {
		t.Error("what was handed in was changed")
	}
}

func TestSet(t *testing.T) {
	b := []byte{1, 2, 3, 4, 5}
	const v = 0xA1B2C3D4
	wantSet(t, b, 0, 4, true, v, []byte{0xA1, 0xB2, 0xC3, 0xD4, 5}, api.OK)
	wantSet(t, b, 1, 4, false, v, []byte{1, 0xD4, 0xC3, 0xB2, 0xA1}, api.OK)
	wantSet(t, b, 1, 3, true, v, []byte{1, 0xB2, 0xC3, 0xD4, 5}, api.OK)
	wantSet(t, b, 2, 3, false, v, []byte{1, 2, 0xD4, 0xC3, 0xB2}, api.OK)
	wantSet(t, b, 3, 2, true, v, []byte{1, 2, 3, 0xC3, 0xD4}, api.OK)
	wantSet(t, b, 0, 2, false, v, []byte{0xD4, 0xC3, 3, 4, 5}, api.OK)
	for _, big := range []bool{true, false} {
		wantSet(t, b, 4, 1, big, v, []byte{1, 2, 3, 4, 0xD4}, api.OK)
	}
	if !bytes.Equal(b, []byte{1, 2, 3, 4, 5}) {
		t.Error("what was handed in was changed")
	}
}

// Sizes 0 and 5 are refused wherever they stand, also where bytes are missing.
func TestSizesThatMayNotBe(t *testing.T) {
	b := probe.Noise(0, 20)
	for _, size := range []int{0, 5, -1, math.MinInt, math.MaxInt} {
		for _, at := range []int{0, 19, 20, 99, -1, math.MinInt, math.MaxInt} {
			for _, big := range []bool{true, false} {
				wantGet(t, b, at, size, big, 0, api.ErrRange)
				wantGet(t, nil, at, size, big, 0, api.ErrRange)
				wantSet(t, b, at, size, big, 7, nil, api.ErrRange)
				wantSet(t, nil, at, size, big, 7, nil, api.ErrRange)
			}
		}
	}
}

func TestPlacesThatMayNotBe(t *testing.T) {
	b := []byte{1, 2, 3, 4, 5}
	for size := 1; size <= 4; size++ {
		for _, at := range []int{-1, -4, math.MinInt, 6 - size, 5, 6, math.MaxInt - 1, math.MaxInt} {
			for _, big := range []bool{true, false} {
				wantGet(t, b, at, size, big, 0, api.ErrEnd)
				wantSet(t, b, at, size, big, 7, nil, api.ErrEnd)
				wantGet(t, b[:size-1], 0, size, big, 0, api.ErrEnd)
				wantSet(t, b[:size-1], 0, size, big, 7, nil, api.ErrEnd)
			}
		}
	}
}

// Bytes in spare room don't count as standing there.
func TestSpareRoomIsNotRead(t *testing.T) {
	b, all := probe.Roomy([]byte{1, 2})
	before := string(all)
	wantGet(t, b, 1, 2, true, 0, api.ErrEnd)
	wantSet(t, b, 1, 2, true, 7, nil, api.ErrEnd)
	if string(all) != before {
		t.Error("changed:", all)
	}
}

func TestSetAnswersNewMemory(t *testing.T) {
	b, all := probe.Roomy([]byte{1, 2, 3})
	before := string(all)
	c, _ := bits.Set(b, 0, 2, true, 9)
	d, _ := bits.Set(b, 0, 2, true, 9)
	probe.Spoil(c)
	if string(all) != before || !bytes.Equal(d, []byte{0, 9, 3}) {
		t.Error("an answer shares memory:", all, d)
	}
}

func TestWhatIsSetIsGot(t *testing.T) {
	b := probe.Noise(0, 10)
	const v = 0xF00DBEE5
	for size := 1; size <= 4; size++ {
		for at := 0; at <= 10-size; at++ {
			for _, big := range []bool{true, false} {
				c, e := bits.Set(b, at, size, big, v)
				if e != api.OK || len(c) != 10 {
					t.Fatal(at, size, big, c, e)
				}
				wantGet(t, c, at, size, big, uint32(uint64(v)&(1<<(8*size)-1)), api.OK)
				if !bytes.Equal(c[:at], b[:at]) || !bytes.Equal(c[at+size:], b[at+size:]) {
					t.Error("other bytes were set too:", at, size, big)
				}
			}
		}
	}
}
