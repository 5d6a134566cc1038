package prefix_test

import (
	"container/heap"
	"fmt"
	"math"
	"slices"
	"testing"

	"darkroom/api"
	"darkroom/prefix"
	"darkroom/probe"
)

// wantBuilt asks for a good answer of P3.2 whose sum is cost, and answers it.
func wantBuilt(t *testing.T, counts []int, most, cost int) []int {
	t.Helper()
	lengths, e := prefix.Build(counts, most)
	if e != api.OK || len(lengths) != len(counts) {
		t.Fatalf("Build(%s, %d) = %s, %d", short(counts), most, short(lengths), e)
	}
	used, sum := 0, 0
	for i, c := range counts {
		n := lengths[i]
		if (n == 0) != (c == 0) || n < 0 || n > most {
			t.Errorf("Build(%s, %d): a count of %d has length %d", short(counts), most, c, n)
		}
		sum += c * n
		used += min(c, 1)
	}
	room, e := prefix.Room(lengths)
	if e != api.OK || used > 1 && room != 0 {
		t.Errorf("Build(%s, %d) = %s: room %d, %d", short(counts), most, short(lengths), room, e)
	}
	if sum != cost {
		t.Errorf("Build(%s, %d) = %s takes %d; want %d", short(counts), most, short(lengths), sum, cost)
	}
	return lengths
}

func wantBuildFault(t *testing.T, counts []int, most int, want api.Errno) {
	t.Helper()
	if l, e := prefix.Build(counts, most); len(l) != 0 || e != want {
		t.Errorf("Build(%s, %d) = %s, %d; want %d", short(counts), most, short(l), e, want)
	}
}

// leastCost goes down a tree: at each depth so many of its free places as may
// be are given to the greatest counts that are left, the others are split, and
// all that is left goes one bit deeper. -1: there is no such tree.
func leastCost(counts []int, most int) int {
	var rest []int
	for _, c := range counts {
		if c > 0 {
			rest = append(rest, c)
		}
	}
	slices.Sort(rest)
	slices.Reverse(rest)
	behind := make([]int, len(rest)+1)
	for i := range rest {
		behind[len(rest)-1-i] = behind[len(rest)-i] + rest[len(rest)-1-i]
	}
	known := map[[3]int]int{}
	var least func(depth, given, free int) int
	least = func(depth, given, free int) int {
		if free == len(rest)-given {
			return 0
		}
		if free > len(rest)-given || depth == most {
			return -1
		}
		key := [3]int{depth, given, free}
		if c, ok := known[key]; ok {
			return c
		}
		best := -1
		for leaves := range free {
			below := least(depth+1, given+leaves, 2*(free-leaves))
			if cost := below + behind[given+leaves]; below >= 0 && (best < 0 || cost < best) {
				best = cost
			}
		}
		known[key] = best
		return best
	}
	if len(rest) == 1 {
		return rest[0]
	}
	if len(rest) == 0 {
		return 0
	}
	return least(0, 0, 1)
}

type weights []int

func (w weights) Len() int           { return len(w) }
func (w weights) Less(i, j int) bool { return w[i] < w[j] }
func (w weights) Swap(i, j int)      { w[i], w[j] = w[j], w[i] }
func (w *weights) Push(x any)        { *w = append(*w, x.(int)) }
func (w *weights) Pop() any {
	last := len(*w) - 1
	x := (*w)[last]
	*w = (*w)[:last]
	return x
}

// freeCost is the least cost of a code whose lengths have no bound.
func freeCost(counts []int) int {
	w := weights{}
	for _, c := range counts {
		if c > 0 {
			w = append(w, c)
		}
	}
	heap.Init(&w)
	cost := 0
	for w.Len() > 1 {
		both := heap.Pop(&w).(int) + heap.Pop(&w).(int)
		cost += both
		heap.Push(&w, both)
	}
	return cost
}

// rising answers counts that make a code as deep as can be: each is what all
// ahead of it are together.
func rising(n int) []int {
	counts := []int{1, 1}
	for len(counts) < n {
		counts = append(counts, counts[len(counts)-1]+counts[len(counts)-2])
	}
	return counts[:n]
}

func TestBuildExamples(t *testing.T) {
	if l := wantBuilt(t, []int{5, 1, 1, 0}, 15, 9); !slices.Equal(l, []int{1, 2, 2, 0}) {
		t.Error(l)
	}
	wantBuildFault(t, []int{1, 1, 1}, 1, api.ErrMany)
	if l := wantBuilt(t, []int{100, 10, 5, 1, 1}, 3, 151); !slices.Equal(l, []int{1, 3, 3, 3, 3}) {
		t.Error(l)
	}
	if l := wantBuilt(t, []int{1, 1, 5, 10, 100}, 4, 100+20+15+8); !slices.Equal(l, []int{4, 4, 3, 2, 1}) {
		t.Error(l)
	}
}

// P3.2: nothing at all, counts that are all 0, and one above 0: lengths of 0,
// and one of 1, whatever the most is.
func TestBuildOfNoneAndOne(t *testing.T) {
	for _, most := range []int{1, 2, 15, 16} {
		for _, n := range []int{0, 1, 2, 4096} {
			wantBuilt(t, alike(0, n), most, 0)
		}
		wantBuilt(t, nil, most, 0)
		for _, c := range []int{1, 2, 1<<30 - 1, 1 << 30} {
			for _, n := range []int{1, 2, 3, 4096} {
				for _, at := range []int{0, n / 2, n - 1} {
					l := wantBuilt(t, with(alike(0, n), at, c), most, c)
					if !slices.Equal(l, with(alike(0, n), at, 1)) {
						t.Error(short(l))
					}
				}
			}
		}
	}
}

// P3.2: two above 0 have a bit each, wherever they stand.
func TestBuildOfTwo(t *testing.T) {
	for _, most := range []int{1, 2, 15, 16} {
		for _, c := range []int{1, 7, 1 << 30} {
			if l := wantBuilt(t, []int{0, c, 0, 1, 0}, most, c+1); !slices.Equal(l, []int{0, 1, 0, 1, 0}) {
				t.Error(l)
			}
		}
	}
}

// P3.2: every list of up to five small counts, by every most.
func TestBuildOfEveryShortList(t *testing.T) {
	for size := range 6 {
		counts := make([]int, size)
		for {
			for most := 1; most <= 5; most++ {
				if cost := leastCost(counts, most); cost >= 0 {
					wantBuilt(t, counts, most, cost)
				} else {
					wantBuildFault(t, counts, most, api.ErrMany)
				}
			}
			at := 0
			for at < size && counts[at] == 5 {
				counts[at] = 0
				at++
			}
			if at == size {
				break
			}
			counts[at]++
		}
	}
}

// P3.2: longer lists, of all kinds, by every most.
func TestBuildOfLongerLists(t *testing.T) {
	lists := [][]int{rising(17), rising(18), rising(25), rising(40), alike(1, 33), alike(1<<30, 40)}
	reversed := rising(30)
	slices.Reverse(reversed)
	lists = append(lists, reversed, with(alike(1, 40), 20, 1<<30), with(alike(1<<30, 40), 20, 1))
	for i := range 30 {
		lists = append(lists, noise(uint32(i), 6+i, []int{2, 3, 10, 1000, 1 << 24}[i%5]))
	}
	powers := make([]int, 31)
	for i := range powers {
		powers[(i*7)%31] = 1 << i
	}
	lists = append(lists, powers)
	for _, counts := range lists {
		for most := 1; most <= 16; most++ {
			if cost := leastCost(counts, most); cost >= 0 {
				wantBuilt(t, counts, most, cost)
			} else {
				wantBuildFault(t, counts, most, api.ErrMany)
			}
		}
	}
}

// P3.2: where the bound doesn't bind, the cost is that of a code without one.
func TestBuildWhereTheMostDoesNotBind(t *testing.T) {
	for i, n := range []int{100, 286, 1000, 4095, 4096} {
		counts := noise(uint32(i), n, 1<<20)
		for j := range counts {
			counts[j] += 1 << 16
		}
		wantBuilt(t, counts, 16, freeCost(counts))
	}
	for n := 2; n <= 17; n++ {
		wantBuilt(t, rising(n), n-1, freeCost(rising(n)))
		wantBuilt(t, rising(n), 16, freeCost(rising(n)))
	}
	// One more bit is wanted than there may be.
	if free := freeCost(rising(18)); leastCost(rising(18), 16) <= free {
		t.Error("the bound should bind")
	}
}

// P3.2: as many counts above 0 as 2^most may be, and have most bits each; one
// more may not. Counts of 0 don't count.
func TestBuildOfAsManyAsMayBe(t *testing.T) {
	for most := 1; most <= 12; most++ {
		n := 1 << most
		counts := noise(uint32(most), n, 1<<30)
		sum := 0
		for i := range counts {
			counts[i]++
			sum += counts[i]
		}
		if l := wantBuilt(t, counts, most, sum*most); !slices.Equal(l, alike(most, n)) {
			t.Error(most, short(l))
		}
		wantBuilt(t, alike(1<<30, n), most, most*n<<30)
		if most == 12 {
			continue
		}
		wantBuilt(t, append(slices.Clone(counts), 0, 0, 0), most, sum*most)
		wantBuilt(t, append(alike(0, 4096-n), counts...), most, sum*most)
		wantBuildFault(t, append(slices.Clone(counts), 1), most, api.ErrMany)
		wantBuildFault(t, append(append(alike(0, 4095-n), counts...), 1<<30), most, api.ErrMany)
		wantBuildFault(t, alike(1, 4096), most, api.ErrMany)
	}
	for most := 13; most <= 16; most++ {
		wantBuilt(t, alike(1<<30, 4096), most, 12*4096<<30)
	}
}

// P3.2: one length below the least most that there is, so that nearly all codes
// are as long as may be.
func TestBuildWhereTheMostIsTight(t *testing.T) {
	for most := 3; most <= 6; most++ {
		for less := 1; less <= 4; less++ {
			counts := rising(1<<most - less)
			for i := range counts {
				counts[i] = counts[i]%1000003 + 1
			}
			wantBuilt(t, counts, most, leastCost(counts, most))
		}
	}
}

func TestBuildNumbersThatMayNotBe(t *testing.T) {
	for _, most := range []int{0, 17, -1, 32, 64, math.MinInt, math.MaxInt} {
		for _, counts := range [][]int{nil, {}, {0}, {1}, {5, 1, 1, 0}, alike(1, 4096), {-1}} {
			wantBuildFault(t, counts, most, api.ErrRange)
		}
	}
	for _, c := range []int{-1, 1<<30 + 1, -1 << 30, 1 << 31, math.MinInt, math.MaxInt} {
		for _, most := range []int{1, 12, 16} {
			wantBuildFault(t, []int{c}, most, api.ErrRange)
			for _, at := range []int{0, 2, 3} {
				wantBuildFault(t, with([]int{5, 1, 1, 0}, at, c), most, api.ErrRange)
			}
			// Ahead of ErrMany.
			wantBuildFault(t, with(alike(1, 4096), 4095, c), most, api.ErrRange)
			wantBuildFault(t, with(alike(1, 4096), 0, c), most, api.ErrRange)
		}
	}
}

// P3.2: 4097 counts are too many ahead of all else that may be wrong.
func TestBuildOfTooManySymbols(t *testing.T) {
	for _, c := range []int{0, 1, -1, 1 << 31} {
		for _, most := range []int{0, 1, 12, 16, 17, -5} {
			wantBuildFault(t, alike(c, 4097), most, api.ErrLong)
			wantBuildFault(t, with(alike(0, 4097), 4096, c), most, api.ErrLong)
		}
	}
}

// R4: what is handed in stays, spare room included; what is answered is new.
func TestBuildKeepsAndSharesNothing(t *testing.T) {
	for _, counts := range [][]int{{}, {0, 0}, {0, 3, 0}, {5, 1, 1, 0}, {1, 1, 1}, {-1, 2}, noise(1, 500, 1000)} {
		for _, most := range []int{0, 1, 9, 16} {
			given, all := probe.Roomy(counts)
			before := slices.Clone(all)
			first, e := prefix.Build(given, most)
			second, _ := prefix.Build(given, most)
			want := slices.Clone(first)
			probe.Spoil(first)
			third, e3 := prefix.Build(given, most)
			what := fmt.Sprintf("Build(%s, %d)", short(counts), most)
			if !slices.Equal(all, before) {
				t.Error(what, "changed what was handed in")
			}
			if !slices.Equal(second, want) || !slices.Equal(third, want) || e != e3 {
				t.Error(what, "answers memory that is shared, or two things")
			}
		}
	}
}
