package tones_test

import (
	"slices"
	"sync"
	"testing"

	"darkroom/api"
	"darkroom/probe"
	"darkroom/tones"
)

// A call answers numbers out of three that are handed in.
type call func(a, b, c int) ([]int, api.Errno)

func calls() []call {
	return []call{
		func(a, b, _ int) ([]int, api.Errno) {
			u, e := tones.Up(a, b)
			return []int{int(u)}, e
		},
		func(a, b, _ int) ([]int, api.Errno) {
			d, e := tones.Down(uint16(a), b)
			return []int{d}, e
		},
		func(a, b, c int) ([]int, api.Errno) {
			return []int{int(tones.Luma(color(a, b, c)))}, api.OK
		},
		func(a, b, c int) ([]int, api.Errno) {
			y, cb, cr := tones.Ycc(a, b, c)
			return []int{y, cb, cr}, api.OK
		},
		func(a, b, c int) ([]int, api.Errno) {
			r, g, bl := tones.Rgb(a, b, c)
			return []int{r, g, bl}, api.OK
		},
		func(a, b, c int) ([]int, api.Errno) {
			palette := []api.Color{color(0, 0, 0), color(255, 255, 255), color(30000, 65535, 0), color(0, 0, 65535), color(a, a, a)}
			return []int{tones.Nearest(palette, color(a, b, c))}, api.OK
		},
	}
}

func color(a, b, c int) api.Color {
	return api.Color{R: uint16(a), G: uint16(b), B: uint16(c), A: uint16(a + b)}
}

// told answers the numbers as bytes.
func told(list []int) []byte {
	var b []byte
	for _, n := range list {
		b = append(b, byte(n>>16), byte(n>>8), byte(n))
	}
	return b
}

// R5: the same call answers the same, whatever is asked ahead of it.
func TestSameAnswers(t *testing.T) {
	t.Parallel()
	all := calls()
	dice := probe.Noise(1, 6000)
	scales := []int{1, 2, 1, 300, 257, 70000}
	if s := probe.Steady(len(dice), func(i int) ([]byte, api.Errno) {
		number := func(k int) int { return int(dice[(i+k)%len(dice)]) * scales[(i/len(all)+k)%len(scales)] }
		list, e := all[i%len(all)](number(1), number(2), number(3))
		return told(list), e
	}); s != "" {
		t.Error(s)
	}
}

// R5, R6: no call hangs on those beside it: of one kind a great many are made at
// once, with numbers of their own.
func TestCallsBeside(t *testing.T) {
	t.Parallel()
	numbers := [][3]int{
		{5, 9, 139}, {246, 255, 10}, {30000, 65535, 7}, {114, 228, 16},
		{1, 1, 65535}, {209, 208, 21}, {3, 7, 40000}, {51, 999, 136},
	}
	for k, f := range calls() {
		var ws sync.WaitGroup
		for _, n := range numbers {
			want, wantE := f(n[0], n[1], n[2])
			ws.Go(func() {
				for range 200000 {
					if list, e := f(n[0], n[1], n[2]); e != wantE || !slices.Equal(list, want) {
						t.Errorf("call %d of %v: %v, %d; want %v, %d", k, n, list, e, want, wantE)
						return
					}
				}
			})
		}
		ws.Wait()
	}
}

// R5: a call that was refused changes nothing for those behind it.
func TestRefusedCallsLeaveNothing(t *testing.T) {
	for _, most := range wrongMosts() {
		wantNoUp(t, 1, most)
		wantUp(t, 1, 31, 2114)
		wantNoDown(t, 129, most)
		wantDown(t, 129, 255, 1)
	}
}

// R1: no call panics, whatever numbers it is given.
func TestNoPanic(t *testing.T) {
	list := append(far(), -1, 0, 1, 255, 256, 65534, 65535, 65536)
	for _, f := range calls() {
		for _, a := range list {
			for _, b := range list {
				for _, c := range list {
					f(a, b, c)
				}
			}
		}
	}
}
