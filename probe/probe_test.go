package probe_test

import (
	"bytes"
	"slices"
	"testing"

	"darkroom/probe"
)

func TestNoise(t *testing.T) {
	a := probe.Noise(1, 5000)
	if len(a) != 5000 || !bytes.Equal(a, probe.Noise(1, 5000)) || bytes.Equal(a, probe.Noise(2, 5000)) {
		t.Error("noise hangs on something beside its seed, or not on that")
	}
	seen := map[byte]int{}
	for _, x := range a {
		seen[x]++
	}
	if len(seen) != 256 {
		t.Error("noise has but so many different bytes:", len(seen))
	}
}

func TestRoomy(t *testing.T) {
	list := []int{1, 2, 3}
	middle, all := probe.Roomy(list)
	if !slices.Equal(middle, list) || cap(middle) == len(middle) {
		t.Error(middle, cap(middle))
	}
	middle[0] = 7
	_ = append(middle, 9)
	if want := []int{238, 7, 2, 3, 9, 238}; !slices.Equal(all[7:13], want) || list[0] != 1 {
		t.Error(all, list)
	}
}

func TestSpoil(t *testing.T) {
	list := []uint16{1, 2, 65535}
	probe.Spoil(list[:1])
	if !slices.Equal(list, []uint16{102, 103, 100}) {
		t.Error(list)
	}
}

func TestShort(t *testing.T) {
	if s := probe.Short([]byte{0, 1, 0xAB}); s != "0001ab" {
		t.Error(s)
	}
	if s := probe.Short(make([]byte, 61)); len(s) != 2*60+len(".. (61)") {
		t.Error(s)
	}
}

func TestTexts(t *testing.T) {
	if b := probe.Few(1, 5000, 3); len(b) != 5000 || slices.Max(b) != 2 || slices.Min(b) != 0 || !bytes.Contains(b, []byte{1}) {
		t.Error(probe.Short(b))
	}
	if b := probe.Each(); len(b) != 256 || b[0] != 0 || b[7] != 7 || b[255] != 255 {
		t.Error(b)
	}
	if b := probe.Alike(7, 3); !bytes.Equal(b, []byte{7, 7, 7}) {
		t.Error(b)
	}
	b := probe.NoneAgain(65536)
	seen := map[[2]byte]bool{}
	for i := range len(b) - 1 {
		seen[[2]byte{b[i], b[i+1]}] = true
	}
	if len(b) != 65536 || len(seen) != 65535 || len(probe.NoneAgain(3)) != 3 {
		t.Error("bytes come again:", len(b), len(seen))
	}
	if b := probe.Pieces(1, 20); len(b) < 1000 || !bytes.Equal(b, probe.Pieces(1, 20)) || bytes.Equal(b, probe.Pieces(2, 20)) {
		t.Error(probe.Short(b))
	}
	names := map[string]bool{}
	for _, x := range probe.Texts() {
		names[x.Name] = true
	}
	if len(names) != len(probe.Texts()) {
		t.Error("two texts have one name")
	}
}
