package probe_test

import (
	"slices"
	"testing"

	"darkroom/api"
	"darkroom/probe"
)

func TestEights(t *testing.T) {
	if c := probe.Eight(1, 2, 255); c != (api.Color{R: 257, G: 514, B: 65535, A: 65535}) {
		t.Error(c)
	}
	all := probe.Eights(65536)
	seen := map[api.Color]bool{}
	for _, c := range all {
		if c != probe.EightBit(c) {
			t.Fatal("not of depth 8:", c)
		}
		seen[c] = true
	}
	if len(all) != 65536 || len(seen) != 65536 {
		t.Error("colours come again:", len(all), len(seen))
	}
	if c := probe.EightBit(api.Color{R: 128, G: 129, B: 65407, A: 3}); c != probe.Eight(0, 1, 255) {
		t.Error(c)
	}
}

func TestRow(t *testing.T) {
	for _, n := range []int{1, 300, 4096, 8192, 65536} {
		m := probe.Row(probe.Eights(n)...)
		if m.W > 4096 || m.H > 4096 || m.W*m.H != n || !slices.Equal(probe.ColorsOf(m), probe.Eights(n)) {
			t.Error(n, m.W, m.H)
		}
	}
}

func TestCoarsen(t *testing.T) {
	for how := range uint32(60) {
		m := probe.Image(how, 20, 20)
		before := probe.ColorsOf(m)
		probe.Coarsen(m, how)
		solid, clear := 0, 0
		seen := map[api.Color]bool{}
		for _, c := range probe.ColorsOf(m) {
			seen[api.Color{R: c.R, G: c.G, B: c.B}] = true
			if c.A >= 32768 {
				solid++
			} else {
				clear++
			}
		}
		if how%6 == 5 && len(seen) > 27 || how%6 == 0 && len(seen) != len(before) {
			t.Error("not so many colours:", how, len(seen))
		}
		if allSolid, allClear := how%5 == 0, how%31 == 1; (clear == 0) != allSolid || (solid == 0) != allClear {
			t.Error(how, solid, clear)
		}
	}
}

func TestMet(t *testing.T) {
	m := probe.Row(api.Color{R: 128, A: 32768}, api.Color{R: 129, A: 65535}, api.Color{G: 65535, A: 32767}, api.Color{A: 65535})
	if list := probe.Met(m); !slices.Equal(list, []api.Color{probe.Eight(0, 0, 0), probe.Eight(1, 0, 0)}) {
		t.Error(list)
	}
}

func TestNearest(t *testing.T) {
	if d := probe.Distance(api.Color{R: 1, G: 5, B: 7, A: 9}, api.Color{R: 3, G: 2, B: 8}); d != 4+9+1 {
		t.Error(d)
	}
	palette := []api.Color{{R: 9}, {R: 20}, {R: 10}, {R: 20}}
	for r, want := range map[uint16]int{0: 0, 9: 0, 10: 2, 14: 2, 15: 1, 16: 1, 65535: 1} {
		if place := probe.Nearest(palette, api.Color{R: r}); place != want {
			t.Error(r, place, want)
		}
	}
}
