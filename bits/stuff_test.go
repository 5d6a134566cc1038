package bits_test

import (
	"bytes"
	"testing"

	"darkroom/bits"
	"darkroom/probe"
)

func TestStuff(t *testing.T) {
	for _, c := range []struct{ in, out []byte }{
		{nil, nil},
		{[]byte{}, nil},
		{[]byte{7}, []byte{7}},
		{[]byte{255}, []byte{255, 0}},
		{[]byte{255, 0}, []byte{255, 0, 0}},
		{[]byte{0, 255, 255, 254}, []byte{0, 255, 0, 255, 0, 254}},
		{[]byte{65, 255, 216}, []byte{65, 255, 0, 216}},
	} {
		if got := bits.Stuff(c.in); !bytes.Equal(got, c.out) {
			t.Errorf("Stuff(%x) = %x; want %x", c.in, got, c.out)
		}
	}
}

func TestUnstuff(t *testing.T) {
	for _, c := range []struct {
		in, out []byte
		end     int
	}{
		{nil, nil, 0},
		{[]byte{}, nil, 0},
		{[]byte{0}, []byte{0}, 1},
		{[]byte{255}, nil, 0},
		{[]byte{255, 0}, []byte{255}, 2},
		{[]byte{255, 0, 0}, []byte{255, 0}, 3},
		{[]byte{255, 1}, nil, 0},
		{[]byte{255, 255, 0}, nil, 0},
		{[]byte{255, 0, 255}, []byte{255}, 2},
		{[]byte{1, 2, 255}, []byte{1, 2}, 2},
		{[]byte{255, 0, 65, 255, 216}, []byte{255, 65}, 3},
		{[]byte{1, 255, 217, 255, 0}, []byte{1}, 1},
	} {
		if got, end := bits.Unstuff(c.in); !bytes.Equal(got, c.out) || end != c.end {
			t.Errorf("Unstuff(%x) = %x, %d; want %x, %d", c.in, got, end, c.out, c.end)
		}
	}
}

// A byte 0 in the spare room behind a last byte 255 isn't a byte of the list.
func TestUnstuffStaysWithinTheList(t *testing.T) {
	all := []byte{1, 255, 0, 2}
	if got, end := bits.Unstuff(all[:2]); !bytes.Equal(got, []byte{1}) || end != 1 {
		t.Error(got, end)
	}
}

// P1.5: what was stuffed comes back, to the last byte.
func TestUnstuffOfStuff(t *testing.T) {
	for n := range 40 {
		b := probe.Noise(0, n)
		for i := range b {
			if b[i] < 100 {
				b[i] = 255
			} else if b[i] < 150 {
				b[i] = 0
			}
		}
		s := bits.Stuff(b)
		if got, end := bits.Unstuff(s); !bytes.Equal(got, b) || end != len(s) {
			t.Errorf("Unstuff(%x) = %x, %d; want %x, %d", s, got, end, b, len(s))
		}
	}
}

func TestStuffingAnswersNewMemory(t *testing.T) {
	for _, plain := range [][]byte{{1, 2, 3}, {1, 255, 0, 3}} {
		b, all := probe.Roomy(plain)
		before := string(all)
		s, again := bits.Stuff(b), bits.Stuff(b)
		was := string(again)
		probe.Spoil(s)
		u, _ := bits.Unstuff(b)
		v, _ := bits.Unstuff(b)
		kept := string(v)
		probe.Spoil(u)
		if string(all) != before {
			t.Error("what was handed in was changed:", all)
		}
		if string(again) != was || string(v) != kept {
			t.Error("two answers share memory")
		}
	}
}
