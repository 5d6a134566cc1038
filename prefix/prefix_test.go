package prefix_test

import (
	"slices"
	"testing"

	"darkroom/api"
	"darkroom/prefix"
	"darkroom/probe"
)

func wantRoom(t *testing.T, lengths []int, room int) {
	t.Helper()
	if n, e := prefix.Room(lengths); n != room || e != api.OK {
		t.Errorf("Room(%s) = %d, %d; want %d", short(lengths), n, e, room)
	}
}

func wantCodes(t *testing.T, lengths []int, codes []uint32) {
	t.Helper()
	if c, e := prefix.Codes(lengths); !slices.Equal(c, codes) || e != api.OK {
		t.Errorf("Codes(%s) = %v, %d; want %v", short(lengths), c, e, codes)
	}
}

// P3.1: what is left, what is not, and what lies below nought.
func TestRoom(t *testing.T) {
	wantRoom(t, nil, 65536)
	wantRoom(t, []int{}, 65536)
	wantRoom(t, []int{0}, 65536)
	wantRoom(t, alike(0, 4096), 65536)
	wantRoom(t, []int{2, 1, 3, 3}, 0)
	wantRoom(t, []int{1, 1}, 0)
	wantRoom(t, []int{1, 0, 1, 0}, 0)
	wantRoom(t, []int{1, 1, 1}, -32768)
	wantRoom(t, []int{1, 1, 16}, -1)
	wantRoom(t, []int{16}, 65535)
	wantRoom(t, []int{1, 2, 3, 4, 5, 6, 7, 8, 9, 10, 11, 12, 13, 14, 15, 16}, 1)
	wantRoom(t, []int{1, 2, 3, 4, 5, 6, 7, 8, 9, 10, 11, 12, 13, 14, 15, 16, 16}, 0)
	wantRoom(t, alike(12, 4096), 0)
	wantRoom(t, alike(16, 4096), 61440)
	wantRoom(t, alike(1, 4096), 65536-4096*32768)
	for n := 1; n <= 16; n++ {
		wantRoom(t, []int{0, n}, 65536-1<<(16-n))
	}
}

// P3.1: all codes of some lists, written out.
func TestCodes(t *testing.T) {
	wantCodes(t, nil, nil)
	wantCodes(t, []int{}, nil)
	wantCodes(t, []int{0, 0, 0}, []uint32{0, 0, 0})
	wantCodes(t, []int{2, 1, 3, 3}, []uint32{2, 0, 6, 7})
	wantCodes(t, []int{1}, []uint32{0})
	wantCodes(t, []int{0, 16, 0}, []uint32{0, 0, 0})
	wantCodes(t, []int{16, 16, 16}, []uint32{0, 1, 2})
	wantCodes(t, []int{1, 1}, []uint32{0, 1})
	wantCodes(t, []int{16, 1}, []uint32{32768, 0})
	wantCodes(t, []int{3, 0, 5}, []uint32{0, 0, 4})
	wantCodes(t, []int{5, 0, 3, 5, 9, 3}, []uint32{8, 0, 0, 9, 160, 1})
	wantCodes(t, []int{3, 3, 3, 3, 3, 2, 4, 4}, []uint32{2, 3, 4, 5, 6, 0, 14, 15})
	wantCodes(t, []int{1, 2, 3, 4, 5, 6, 7, 8, 9, 10, 11, 12, 13, 14, 15, 16, 16},
		[]uint32{0, 2, 6, 14, 30, 62, 126, 254, 510, 1022, 2046, 4094, 8190, 16382, 32766, 65534, 65535})
}

// P3.1: against the codes told symbol by symbol; none begins with another.
func TestCodesAsTold(t *testing.T) {
	for name, lengths := range codeLists() {
		if c, e := prefix.Codes(lengths); !slices.Equal(c, plainCodes(lengths)) || e != api.OK {
			t.Errorf("%s: Codes(%s) = %v, %d", name, short(lengths), c, e)
		}
	}
	c, _ := prefix.Codes(alike(12, 4096))
	for symbol, number := range c {
		if int(number) != symbol {
			t.Fatal(symbol, number)
		}
	}
}

// P3.1 and P3.3: a number outside its range, alone and among good ones, at both
// ends.
func TestLengthsThatMayNotBe(t *testing.T) {
	for _, wrong := range wrongLengths {
		wantFault(t, []int{wrong}, api.ErrRange, api.ErrRange)
		for _, at := range []int{0, 1, 3} {
			wantFault(t, with([]int{2, 1, 3, 3}, at, wrong), api.ErrRange, api.ErrRange)
		}
		for _, at := range []int{0, 4095} {
			wantFault(t, with(alike(12, 4096), at, wrong), api.ErrRange, api.ErrRange)
		}
	}
	for _, good := range []int{0, 1, 15, 16} {
		wantFault(t, []int{good}, api.OK, api.OK)
	}
}

// P3.1 and P3.3: 4096 symbols may be, 4097 may not, whatever lengths they have.
func TestTooManySymbols(t *testing.T) {
	for _, n := range []int{0, 12, 16} {
		wantFault(t, alike(n, 4096), api.OK, api.OK)
	}
	for _, n := range []int{0, 1, 12, 16, -1, 17} {
		wantFault(t, alike(n, 4097), api.ErrLong, api.ErrLong)
	}
	wantFault(t, with(alike(0, 4097), 4096, 17), api.ErrLong, api.ErrLong)
	wantFault(t, alike(0, 100000), api.ErrLong, api.ErrLong)
}

// P3.1 and P3.3: room below nought is told by Room alone; a number outside its
// range stands ahead of it.
func TestMoreCodesThanThereIsRoomFor(t *testing.T) {
	for _, lengths := range [][]int{
		{1, 1, 1}, {1, 1, 16}, {16, 1, 1}, {0, 1, 2, 0, 3, 3, 16},
		{1, 2, 3, 4, 5, 6, 7, 8, 9, 10, 11, 12, 13, 14, 15, 16, 16, 16},
		with(alike(12, 4096), 7, 11), alike(1, 4096),
	} {
		wantFault(t, lengths, api.OK, api.ErrOver)
		for _, wrong := range wrongLengths {
			wantFault(t, with(lengths, len(lengths)-1, wrong), api.ErrRange, api.ErrRange)
			wantFault(t, with(lengths, 0, wrong), api.ErrRange, api.ErrRange)
		}
	}
	wantFault(t, append(alike(1, 4), wrongLengths...), api.ErrRange, api.ErrRange)
}

// R4: what is handed in stays, spare room included, and isn't read further.
func TestLengthsStay(t *testing.T) {
	for name, lengths := range codeLists() {
		given, all := probe.Roomy(lengths)
		before := slices.Clone(all)
		prefix.Room(given)
		c, _ := prefix.Codes(given)
		d, _ := prefix.New(given)
		if !slices.Equal(c, plainCodes(lengths)) || d == nil || !slices.Equal(all, before) {
			t.Errorf("%s: %v", name, all)
		}
	}
	over, all := probe.Roomy([]int{1, 1, 1})
	before := slices.Clone(all)
	wantFault(t, over, api.OK, api.ErrOver)
	if !slices.Equal(all, before) {
		t.Error("changed:", all)
	}
}

// R4 and R5: each answer is its own, and a call's answer stays what it is.
func TestCodesAreNewMemory(t *testing.T) {
	for name, lengths := range codeLists() {
		before := slices.Clone(lengths)
		first, _ := prefix.Codes(lengths)
		second, _ := prefix.Codes(lengths)
		probe.Spoil(first)
		third, _ := prefix.Codes(lengths)
		want := plainCodes(before)
		if !slices.Equal(lengths, before) || !slices.Equal(second, want) || !slices.Equal(third, want) {
			t.Errorf("%s: an answer shares memory", name)
		}
	}
}
