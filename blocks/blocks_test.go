package blocks_test

import (
	"slices"
	"testing"

	"darkroom/blocks"
)

// steps answers, symbol by symbol, the least number that it stands for and how
// many bits tell its numbers apart, as the chapter's section "The form" counts
// them out: free symbols without bits, then groups of one bit more each.
func steps(symbols, free, group int) [][2]int {
	var all [][2]int
	least := 0
	for k := range symbols {
		more := 0
		if k >= free {
			more = (k-free)/group + 1
		}
		all = append(all, [2]int{least, more})
		least += 1 << more
	}
	return all
}

func TestStepsOfLengths(t *testing.T) {
	all := steps(28, 8, 4)
	for k, want := range all {
		if least, more := blocks.Step(k, blocks.LengthGroup); least != want[0] || more != want[1] {
			t.Errorf("Step(%d) = %d, %d; want %v", k, least, more, want)
		}
	}
	wantPlaces(t, all, blocks.LengthGroup)
	// As the chapter names them.
	for symbol, length := range map[int]int{257: 3, 264: 10, 265: 11, 269: 19, 273: 35, 277: 67, 281: 131} {
		if least, _ := blocks.Step(symbol-blocks.FirstLength, blocks.LengthGroup); blocks.MinLength+least != length {
			t.Errorf("symbol %d stands for %d; want %d", symbol, blocks.MinLength+least, length)
		}
	}
}

func TestStepsOfDistances(t *testing.T) {
	all := steps(blocks.Distances, 4, 2)
	for k, want := range all {
		if least, more := blocks.Step(k, blocks.DistanceGroup); least != want[0] || more != want[1] {
			t.Errorf("Step(%d) = %d, %d; want %v", k, least, more, want)
		}
	}
	wantPlaces(t, all, blocks.DistanceGroup)
	last := all[len(all)-1]
	if most := blocks.MinDistance + last[0] + 1<<last[1] - 1; most != blocks.MaxDistance {
		t.Errorf("the greatest distance is %d; want %d", blocks.MaxDistance, most)
	}
}

// wantPlaces asks for each number that any of the symbols stands for.
func wantPlaces(t *testing.T, all [][2]int, group int) {
	t.Helper()
	for k, step := range all {
		for v := step[0]; v < step[0]+1<<step[1]; v++ {
			gotK, more := blocks.Place(v, group)
			if gotK != k || more != step[1] {
				t.Fatalf("Place(%d, %d) = %d, %d; want %d, %d", v, group, gotK, more, k, step[1])
			}
			if least := step[0]; least+v&(1<<more-1) != v {
				t.Fatalf("the lowest bits of %d don't tell it from %d", v, least)
			}
		}
	}
}

func TestFixedCodes(t *testing.T) {
	want := slices.Concat(slices.Repeat([]int{8}, 144), slices.Repeat([]int{9}, 256-144), slices.Repeat([]int{7}, 280-256), slices.Repeat([]int{8}, 8))
	if got := blocks.FixedLiterals(); !slices.Equal(got, want) {
		t.Error(got)
	}
	if got := blocks.FixedDistances(); !slices.Equal(got, slices.Repeat([]int{5}, 30)) {
		t.Error(got)
	}
}

func TestLengthsCode(t *testing.T) {
	order := blocks.LengthsOrder()
	if want := [19]int{16, 17, 18, 0, 8, 7, 9, 6, 10, 5, 11, 4, 12, 3, 13, 2, 14, 1, 15}; order != want {
		t.Error(order)
	}
	for symbol, want := range map[int][2]int{0: {1, 0}, 15: {1, 0}, blocks.Again: {3, 2}, blocks.FewNoughts: {3, 3}, blocks.ManyNoughts: {11, 7}} {
		if least, more := blocks.Repeats(symbol); least != want[0] || more != want[1] {
			t.Errorf("Repeats(%d) = %d, %d; want %v", symbol, least, more, want)
		}
	}
	if blocks.Again != 16 || blocks.FewNoughts != 17 || blocks.ManyNoughts != 18 {
		t.Error("the symbols beside the lengths are others than the chapter's")
	}
}

// What is answered is new memory each time.
func TestSharesNothing(t *testing.T) {
	for _, f := range []func() []int{blocks.FixedLiterals, blocks.FixedDistances} {
		a, b := f(), f()
		clear(a[:cap(a)])
		if slices.Equal(a, b) || !slices.Equal(b, f()) {
			t.Error("memory is shared:", b)
		}
	}
}
