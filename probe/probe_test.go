package probe_test

import (
	"bytes"
	"slices"
	"strings"
	"testing"

	"darkroom/api"
	"darkroom/probe"
)

func TestNoise(t *testing.T) {
	a := probe.Noise(1, 5000)
	if len(a) != 5000 || !bytes.Equal(a, probe.Noise(1, 5000)) || bytes.Equal(a, probe.Noise(2, 5000)) {
		t.Error("noise hangs on something beside its seed, or not on that")
	}
	seen := map[byte]int{}
	for _, x := range a {
		seen[x]++
	}
	if len(seen) != 256 {
		t.Error("noise has but so many different bytes:", len(seen))
	}
}

func TestRoomy(t *testing.T) {
	list := []int{1, 2, 3}
	middle, all := probe.Roomy(list)
	if !slices.Equal(middle, list) || cap(middle) == len(middle) {
		t.Error(middle, cap(middle))
	}
	middle[0] = 7
	_ = append(middle, 9)
	if want := []int{238, 7, 2, 3, 9, 238}; !slices.Equal(all[7:13], want) || list[0] != 1 {
		t.Error(all, list)
	}
}

func TestSpoil(t *testing.T) {
	list := []uint16{1, 2, 65535}
	probe.Spoil(list[:1])
	if !slices.Equal(list, []uint16{102, 103, 100}) {
		t.Error(list)
	}
}

func TestShort(t *testing.T) {
	if s := probe.Short([]byte{0, 1, 0xAB}); s != "0001ab" {
		t.Error(s)
	}
	if s := probe.Short(make([]byte, 61)); len(s) != 2*60+len(".. (61)") {
		t.Error(s)
	}
}

func TestTexts(t *testing.T) {
	if b := probe.Few(1, 5000, 3); len(b) != 5000 || slices.Max(b) != 2 || slices.Min(b) != 0 || !bytes.Contains(b, []byte{1}) {
		t.Error(probe.Short(b))
	}
	if b := probe.Each(); len(b) != 256 || b[0] != 0 || b[7] != 7 || b[255] != 255 {
		t.Error(b)
	}
	if b := probe.Alike(7, 3); !bytes.Equal(b, []byte{7, 7, 7}) {
		t.Error(b)
	}
	b := probe.NoneAgain(65536)
	seen := map[[2]byte]bool{}
	for i := range len(b) - 1 {
		seen[[2]byte{b[i], b[i+1]}] = true
	}
	if len(b) != 65536 || len(seen) != 65535 || len(probe.NoneAgain(3)) != 3 {
		t.Error("bytes come again:", len(b), len(seen))
	}
	if b := probe.Pieces(1, 20); len(b) < 1000 || !bytes.Equal(b, probe.Pieces(1, 20)) || bytes.Equal(b, probe.Pieces(2, 20)) {
		t.Error(probe.Short(b))
	}
	names := map[string]bool{}
	for _, x := range probe.Texts() {
		names[x.Name] = true
	}
	if len(names) != len(probe.Texts()) {
		t.Error("two texts have one name")
	}
}

func TestChanged(t *testing.T) {
	file, before := probe.Roomy(probe.Alike(1, 600))
	all := slices.Clone(before)
	seen := map[int]int{}
	places := map[int]bool{}
	for seed := range uint32(2000) {
		b := probe.Changed(file, []byte{2, 3}, seed)
		if !bytes.Equal(b, probe.Changed(file, []byte{2, 3}, seed)) || !slices.Equal(all, before) {
			t.Fatal("changes hang on something beside their seed, or change the file")
		}
		places[bytes.IndexAny(b, "\x02\x03")] = true
		seen[len(b)]++
		if len(b) > 603 || bytes.ContainsFunc(b, func(r rune) bool { return r < 1 || r > 3 }) {
			t.Error(probe.Short(b))
		}
	}
	if seen[600] < 300 || seen[599] < 100 || seen[601] < 100 || len(seen) < 50 || len(places) < 300 {
		t.Error("of some changes there are but few:", seen[600], seen[599], seen[601], len(seen), len(places))
	}
	if b := probe.Changed(nil, []byte{9}, 1); len(b) > 3 {
		t.Error(b)
	}
}

func TestSizes(t *testing.T) {
	for _, s := range probe.Sizes() {
		if s.W < 1 || s.W > 4096 || s.H < 1 || s.H > 4096 || s.W*s.H > 65536 {
			t.Error(s)
		}
	}
	for _, s := range probe.WrongSizes() {
		if s.W >= 1 && s.W <= 4096 && s.H >= 1 && s.H <= 4096 && s.W*s.H <= 65536 {
			t.Error(s)
		}
	}
	for _, n := range probe.Far() {
		if n > -65536 && n < 65536 {
			t.Error(n)
		}
	}
}

func TestPlaces(t *testing.T) {
	s := probe.Size{3, 2}
	all, within := probe.Around(s), map[api.Point]bool{}
	for _, p := range all {
		if probe.Within(s, p) {
			within[p] = true
		}
	}
	if len(within) != 6 || !within[api.Point{X: 2, Y: 1}] || !within[api.Point{}] {
		t.Error(within)
	}
	for _, p := range []api.Point{{X: -1}, {Y: -1}, {X: 3}, {Y: 2}, {X: 3, Y: 2}} {
		if !slices.Contains(all, p) || probe.Lies(s, probe.Size{1, 1}, p.X, p.Y) {
			t.Error(p)
		}
	}
	if !probe.Lies(s, s, 0, 0) || !probe.Lies(s, probe.Size{2, 1}, 1, 1) || probe.Lies(s, probe.Size{2, 1}, 2, 1) || probe.Lies(s, probe.Size{1, 2}, 0, 1) {
		t.Error("Lies")
	}
}

func TestImages(t *testing.T) {
	list := probe.Colors(1, 65536)
	seen := map[api.Color]int{}
	for _, c := range list {
		seen[c]++
	}
	if len(list) != 65536 || len(seen) != 65536 || !slices.Equal(list, probe.Colors(1, 65536)) || list[0] == probe.Colors(2, 1)[0] {
		t.Error("colours come again, or hang on something beside their seed, or not on that:", len(list), len(seen))
	}
	m := probe.ImageOf(1, 2, []api.Color{{R: 1, G: 2, B: 3, A: 4}, {G: 6}})
	if m.W != 1 || m.H != 2 || !slices.Equal(m.Pix, []uint16{1, 2, 3, 4, 0, 6, 0, 0}) {
		t.Error(m)
	}
	m = probe.Image(5, 3, 2)
	if n := probe.ImageOf(3, 2, probe.Colors(5, 6)); m.W != 3 || m.H != 2 || !slices.Equal(m.Pix, n.Pix) {
		t.Error(m)
	}
}

func TestColorsOf(t *testing.T) {
	if list := probe.ColorsOf(probe.Image(3, 5, 4)); !slices.Equal(list, probe.Colors(3, 20)) {
		t.Error(list)
	}
	if m := probe.Greys(1, 2, 3, 4); m.W != 1 || m.H != 2 || !slices.Equal(m.Pix, []uint16{3, 3, 3, 65535, 4, 4, 4, 65535}) {
		t.Error(m)
	}
	if m := probe.Solid(2, 1, 1, 2, 3, 4, 5, 6); m.W != 2 || m.H != 1 || !slices.Equal(m.Pix, []uint16{1, 2, 3, 65535, 4, 5, 6, 65535}) {
		t.Error(m)
	}
}

func TestDepths(t *testing.T) {
	for _, x := range []struct {
		v, top int
		want   uint16
	}{{0, 1, 0}, {1, 1, 65535}, {1, 31, 2114}, {1, 255, 257}, {65535, 65535, 65535}} {
		if probe.Up(x.v, x.top) != x.want || probe.Down(x.want, x.top) != x.v {
			t.Error(x)
		}
	}
	if probe.Down(128, 255) != 0 || probe.Down(129, 255) != 1 {
		t.Error("Down")
	}
	if list := probe.Wide([]byte{0, 255, 7}); !slices.Equal(list, []uint16{0, 255, 7}) {
		t.Error(list)
	}
	if b := probe.Narrow([]uint16{0x1234, 255}); !bytes.Equal(b, []byte{0x12, 0x34, 0, 255}) {
		t.Error(b)
	}
}

func TestBadImages(t *testing.T) {
	sizes := map[probe.Size]bool{}
	for _, s := range probe.Sizes() {
		sizes[s] = true
	}
	for _, m := range probe.BadImages() {
		if sizes[probe.Size{W: m.W, H: m.H}] && len(m.Pix) == 4*m.W*m.H {
			t.Error(probe.Told(m))
		}
	}
	m := probe.Sampled(-3, 2, 5)
	if n := probe.RoomyImage(m); m.W != -3 || n.H != 2 || !slices.Equal(m.Pix, []uint16{7, 7, 7, 7, 7}) || !slices.Equal(m.Pix, n.Pix) || cap(n.Pix) == 5 {
		t.Error(m, n)
	}
}

func TestTold(t *testing.T) {
	if s := probe.Told(api.Image{W: -1, H: 20, Pix: []uint16{3, 65535}}); s != "-1 by 20: 3 65535" {
		t.Error(s)
	}
	if s := probe.Told(probe.Sampled(1, 1, 61)); !strings.HasSuffix(s, " 7 7 .. (61)") || strings.Count(s, " 7") != 60 {
		t.Error(s)
	}
}

func TestOther(t *testing.T) {
	m := api.Image{W: 1, H: 1, Pix: []uint16{1, 2, 3, 4}}
	if s := probe.Other(m, api.OK, probe.RoomyImage(m), api.OK); s != "" {
		t.Error(s)
	}
	if s := probe.Other(api.Image{Pix: []uint16{}}, api.ErrSize, api.Image{}, api.ErrSize); s != "" {
		t.Error(s)
	}
	for _, n := range []api.Image{
		{}, {W: 2, H: 1, Pix: m.Pix}, {W: 1, H: 2, Pix: m.Pix}, {W: 1, H: 1}, {W: 1, H: 1, Pix: m.Pix[:3]},
		{W: 1, H: 1, Pix: []uint16{1, 2, 3, 5}}, {W: 1, H: 1, Pix: []uint16{1, 2, 3, 4, 0}},
	} {
		if probe.Other(n, api.OK, m, api.OK) == "" || probe.Other(m, api.OK, n, api.OK) == "" {
			t.Error("not found out:", probe.Told(n))
		}
	}
	if probe.Other(m, api.ErrEnd, m, api.OK) == "" || probe.Other(m, api.OK, m, api.ErrEnd) == "" {
		t.Error("not found out: an error")
	}
}
