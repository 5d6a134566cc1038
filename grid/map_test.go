package grid_test

import (
	"errors"
	"slices"
	"strconv"
	"testing"

	"darkroom/api"
	"darkroom/grid"
	"darkroom/probe"
)

// P7.1: f of each cell, called once a cell in their order; the grid stays.
func TestMap(t *testing.T) {
	for _, s := range probe.Sizes() {
		g := counted(t, s.W, s.H, 3)
		var met []int
		m := grid.Map(g, func(v int) int64 {
			met = append(met, v)
			return int64(v) * 1000
		})
		if !slices.Equal(met, count(3, s.W*s.H)) {
			t.Errorf("%v: f is called with %v", s, head(met))
		}
		want := make([]int64, s.W*s.H)
		for i := range want {
			want[i] = int64(i+3) * 1000
		}
		wantGrid(t, m, s.W, s.H, want)
		wantGrid(t, g, s.W, s.H, count(3, s.W*s.H))
	}
}

// P7.1: cells that are alike call f once each.
func TestMapOfCellsAlike(t *testing.T) {
	g, _ := grid.New[bool](5, 3)
	calls := 0
	m := grid.Map(g, func(bool) int {
		calls++
		return calls
	})
	wantGrid(t, m, 5, 3, count(1, 15))
}

// P7.1: to and from numbers, words, structs and functions.
func TestMapToOtherKinds(t *testing.T) {
	words := grid.Map(counted(t, 2, 2, 9), strconv.Itoa)
	wantGrid(t, words, 2, 2, []string{"9", "10", "11", "12"})
	lengths := grid.Map(words, func(s string) int { return len(s) })
	wantGrid(t, lengths, 2, 2, []int{1, 2, 2, 2})
	spots := grid.Map(words, func(s string) spot { return spot{s, api.Point{X: len(s)}} })
	wantGrid(t, spots, 2, 2, []spot{{"9", api.Point{X: 1}}, {"10", api.Point{X: 2}}, {"11", api.Point{X: 2}}, {"12", api.Point{X: 2}}})
	later := grid.Map(lengths, func(n int) func() int { return func() int { return 7 * n } })
	now := grid.Map(later, func(f func() int) int { return f() })
	wantGrid(t, now, 2, 2, []int{7, 14, 14, 14})
}

// P7.1, R4: the outcome is a grid of its own, of the same kind too.
func TestMapIsNew(t *testing.T) {
	g := counted(t, 3, 2, 1)
	m := grid.Map(g, func(v int) int { return v })
	again := grid.Map(g, func(v int) int { return v })
	g.Set(0, 0, 50)
	m.Set(2, 1, 60)
	wantGrid(t, g, 3, 2, []int{50, 2, 3, 4, 5, 6})
	wantGrid(t, m, 3, 2, []int{1, 2, 3, 4, 5, 60})
	wantGrid(t, again, 3, 2, count(1, 6))
}

// P7.1: of a nil grid nil; f isn't called.
func TestMapOfNil(t *testing.T) {
	var none *grid.Grid[int]
	called := false
	m := grid.Map(none, func(int) string {
		called = true
		return "a"
	})
	if m != nil || called {
		t.Error(m, called)
	}
	if m := grid.Map[int, int](none, nil); m != nil {
		t.Error(m)
	}
}

// R1: no function, and one that panics: no outcome, and no panic.
func TestMapPanics(t *testing.T) {
	g := counted(t, 3, 2, 1)
	if m := grid.Map[int, string](g, nil); m != nil {
		t.Error(m)
	}
	for _, fault := range []any{"a text", errors.New("an error"), api.ErrEnd, nil} {
		for last := 1; last <= 6; last++ {
			calls := 0
			m := grid.Map(g, func(v int) int {
				if calls++; v == last {
					panic(fault)
				}
				return v
			})
			if m != nil || calls != last {
				t.Errorf("f panics at cell %d: %v, %d calls", last, m, calls)
			}
		}
	}
	var list []int
	if m := grid.Map(g, func(v int) int { return list[v] }); m != nil {
		t.Error(m)
	}
	wantGrid(t, g, 3, 2, count(1, 6))
	wantGrid(t, grid.Map(g, func(v int) int { return -v }), 3, 2, []int{-1, -2, -3, -4, -5, -6})
}
