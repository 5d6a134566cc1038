package grid_test

import (
	"slices"
	"testing"

	"darkroom/api"
	"darkroom/grid"
	"darkroom/probe"
)

// smallSizes are those at which each place may be looked at with each other.
func smallSizes() []probe.Size { return []probe.Size{{1, 1}, {3, 1}, {1, 4}, {4, 3}, {2, 5}} }

// P7.2: the document's example.
func TestRowsExample(t *testing.T) {
	var numbers []int
	var rows [][]int
	for y, row := range made(t, 2, 2, []int{1, 2, 3, 4}).Rows() {
		numbers, rows = append(numbers, y), append(rows, row)
	}
	if !slices.Equal(numbers, []int{0, 1}) || len(rows) != 2 || !slices.Equal(rows[0], []int{1, 2}) || !slices.Equal(rows[1], []int{3, 4}) {
		t.Error(numbers, rows)
	}
}

// P7.2: who stops at the n-th row gets no more, and begins anew next time.
func TestRowsStopped(t *testing.T) {
	for _, s := range append(smallSizes(), probe.Size{1, api.MaxSide}) {
		g := counted(t, s.W, s.H, 1)
		rows := g.Rows()
		for n := 1; n <= s.H; n += 1 + n/64 {
			given := 0
			rows(func(y int, row []int) bool {
				if y != given || row[0] != 1+y*s.W {
					t.Errorf("%v, stopped at %d: row %d is %d, %v", s, n, given, y, head(row))
				}
				given++
				return given < n
			})
			if given != n {
				t.Errorf("%v, stopped at %d: %d rows", s, n, given)
			}
		}
	}
}

// P7.2: who stops at the n-th cell gets no more, and begins anew next time.
func TestAllStopped(t *testing.T) {
	for _, s := range append(smallSizes(), probe.Size{api.MaxSide, 1}) {
		g := counted(t, s.W, s.H, 1)
		all := g.All()
		for n := 1; n <= s.W*s.H; n += 1 + n/64 {
			given := 0
			all(func(p api.Point, v int) bool {
				if p != (api.Point{X: given % s.W, Y: given / s.W}) || v != 1+given {
					t.Errorf("%v, stopped at %d: cell %d is %v, %d", s, n, given, p, v)
				}
				given++
				return given < n
			})
			if given != n {
				t.Errorf("%v, stopped at %d: %d cells", s, n, given)
			}
		}
	}
}

// P7.2: break, and a loop within a loop over the same iterator.
func TestLoopsOfLoops(t *testing.T) {
	g := counted(t, 3, 2, 1)
	all, rows := g.All(), g.Rows()
	var met []int
	for _, v := range all {
		for _, w := range all {
			if w == 3 {
				break
			}
			met = append(met, 10*v+w)
		}
		if v == 4 {
			break
		}
	}
	if want := []int{11, 12, 21, 22, 31, 32, 41, 42}; !slices.Equal(met, want) {
		t.Error(met)
	}
	met = nil
	for y, row := range rows {
		for z, other := range rows {
			met = append(met, 10*y+z, row[0]*other[2])
		}
	}
	if want := []int{0, 3, 1, 6, 10, 12, 11, 24}; !slices.Equal(met, want) {
		t.Error(met)
	}
}

// P7.2: a Set at each cell of each cell: seen where it comes behind, in the same
// row too, and not where it was given already.
func TestSetWithinAll(t *testing.T) {
	for _, s := range smallSizes() {
		n := s.W * s.H
		for at := range n {
			for set := range n {
				g, want := counted(t, s.W, s.H, 1), count(1, n)
				var met []int
				for p, v := range g.All() {
					if met = append(met, v); p == (api.Point{X: at % s.W, Y: at / s.W}) {
						g.Set(set%s.W, set/s.W, 99)
					}
				}
				if set > at {
					want[set] = 99
				}
				if !slices.Equal(met, want) {
					t.Errorf("%v, cell %d set at cell %d: %v", s, set, at, met)
				}
				want[set] = 99
				wantGrid(t, g, s.W, s.H, want)
			}
		}
	}
}

// P7.2: each cell told by the one ahead.
func TestSetsAlongAll(t *testing.T) {
	g := made(t, 4, 3, make([]int, 12))
	for p, v := range g.All() {
		next := p.Y*4 + p.X + 1
		g.Set(next%4, next/4, v+next)
	}
	wantGrid(t, g, 4, 3, []int{0, 1, 3, 6, 10, 15, 21, 28, 36, 45, 55, 66})
}

// P7.2: a Set at each row of each cell: seen in rows behind, and not in those
// that were given, the one that is there now among them.
func TestSetWithinRows(t *testing.T) {
	for _, s := range smallSizes() {
		for at := range s.H {
			for set := range s.W * s.H {
				g, want := counted(t, s.W, s.H, 1), count(1, s.W*s.H)
				var rows [][]int
				for y, row := range g.Rows() {
					if rows = append(rows, row); y == at {
						g.Set(set%s.W, set/s.W, 99)
					}
				}
				if set/s.W > at {
					want[set] = 99
				}
				if met := slices.Concat(rows...); len(rows) != s.H || !slices.Equal(met, want) {
					t.Errorf("%v, cell %d set at row %d: %v", s, set, at, rows)
				}
				want[set] = 99
				wantGrid(t, g, s.W, s.H, want)
			}
		}
	}
}

// P7.2: a Paste within the loop is seen behind it as a Set is.
func TestPasteWithinLoops(t *testing.T) {
	g, p := counted(t, 2, 3, 1), made(t, 2, 2, []int{91, 92, 93, 94})
	var met []int
	for at, v := range g.All() {
		if met = append(met, v); at == (api.Point{X: 0, Y: 1}) {
			g.Paste(0, 1, p)
		}
	}
	if want := []int{1, 2, 3, 92, 93, 94}; !slices.Equal(met, want) {
		t.Error(met)
	}
	g = counted(t, 2, 3, 1)
	var rows [][]int
	for y, row := range g.Rows() {
		if rows = append(rows, row); y == 1 {
			g.Paste(0, 1, p)
		}
	}
	if met := slices.Concat(rows...); !slices.Equal(met, []int{1, 2, 3, 4, 93, 94}) {
		t.Error(rows)
	}
}

// P7.2: an iterator gives what is there when it gives it, not when it was made.
func TestSetAheadOfLoops(t *testing.T) {
	g := counted(t, 2, 2, 1)
	all, rows := g.All(), g.Rows()
	for turn := range 3 {
		g.Set(1, 0, 90+turn)
		var met []int
		for _, v := range all {
			met = append(met, v)
		}
		for _, row := range rows {
			met = append(met, row...)
		}
		if want := []int{1, 90 + turn, 3, 4, 1, 90 + turn, 3, 4}; !slices.Equal(met, want) {
			t.Error(met)
		}
	}
}

// P7.2, R4: a row that was given is one's own: what is done to it, its spare room
// included, changes neither the grid nor other rows.
func TestRowsAreNew(t *testing.T) {
	for _, s := range smallSizes() {
		g, want := counted(t, s.W, s.H, 1), count(1, s.W*s.H)
		var rows [][]int
		for range 2 {
			for y, row := range g.Rows() {
				if !slices.Equal(row, want[y*s.W:(y+1)*s.W]) {
					t.Errorf("%v: row %d: %v", s, y, row)
				}
				probe.Spoil(row)
				_ = append(row[:0], make([]int, 3*s.W)...)
				rows = append(rows, row)
			}
		}
		wantGrid(t, g, s.W, s.H, want)
		// The last ones first: spare room reaches towards what is behind.
		for i, row := range slices.Backward(rows) {
			row = row[:cap(row)]
			for k := range row {
				row[k] = 1000 * (i + 1)
			}
		}
		for i, row := range rows {
			if slices.Min(row) != 1000*(i+1) || slices.Max(row) != 1000*(i+1) {
				t.Errorf("%v: rows share memory: %v", s, rows)
			}
		}
		wantGrid(t, g, s.W, s.H, want)
	}
}

// P7.2: rows and cells of words and structs.
func TestLoopsOfOtherKinds(t *testing.T) {
	words := made(t, 1, 2, []string{"a", "b"})
	for y, row := range words.Rows() {
		if !slices.Equal(row, []string{"ab"[y : y+1]}) {
			t.Error(y, row)
		}
	}
	spots, _ := grid.New[spot](2, 2)
	for p, v := range spots.All() {
		if v != (spot{}) || !spots.Set(p.X, p.Y, spot{"here", p}) {
			t.Error(p, v)
		}
	}
	for p, v := range spots.All() {
		if v != (spot{"here", p}) {
			t.Error(p, v)
		}
	}
}
