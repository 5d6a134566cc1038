package chunk_test

import (
	"math"
	"slices"
	"testing"

	"darkroom/api"
	"darkroom/chunk"
	"darkroom/probe"
)

const (
	mostWidth = 1 << 20
	kinds     = 5
)

// plainGuess is what the chapter takes from the byte at a place of rows, each of
// width bytes.
func plainGuess(rows []byte, width, bpp, kind, x, y int) int {
	at := func(x, y int) int {
		if x < 0 || y < 0 {
			return 0
		}
		return int(rows[y*width+x])
	}
	a, b, c := at(x-bpp, y), at(x, y-1), at(x-bpp, y-1)
	list := []int{a, b, c}
	slices.SortStableFunc(list, func(p, q int) int { return plainDistance(p, a+b-c) - plainDistance(q, a+b-c) })
	return []int{0, a, b, (a + b) >> 1, list[0]}[kind]
}

func plainDistance(p, q int) int {
	if p < q {
		return q - p
	}
	return p - q
}

// plainFilter filters rows, each by a kind of its own, those of kinds by turns.
func plainFilter(rows []byte, width, bpp int, kinds ...int) []byte {
	var b []byte
	for y := range len(rows) / width {
		kind := kinds[y%len(kinds)]
		b = append(b, byte(kind))
		for x := range width {
			b = append(b, byte(int(rows[y*width+x])-plainGuess(rows, width, bpp, kind, x, y)))
		}
	}
	return b
}

// P12.3: rows filtered by each kind, told byte by byte.
func TestFilterKnown(t *testing.T) {
	wantFilter(t, []byte{10, 20, 30}, 3, 1, 1, []byte{1, 10, 10, 10})
	rows := []byte{10, 20, 30, 40, 5, 250, 0, 100}
	for kind, want := range [][]byte{
		{0, 10, 20, 30, 40, 0, 5, 250, 0, 100},
		{1, 10, 20, 20, 20, 1, 5, 250, 251, 106},
		{2, 10, 20, 30, 40, 2, 251, 230, 226, 60},
		// The means of 10 0, 20 0; of 0 10, 0 20, 5 30, 250 40.
		{3, 10, 20, 25, 30, 3, 0, 240, 239, 211},
		// The nearest to 5 + 30 - 10 is 30, to 250 + 40 - 20 is 250.
		{4, 10, 20, 20, 20, 4, 251, 230, 226, 106},
	} {
		wantFilter(t, rows, 4, 2, kind, want)
	}
}

// P12.3, P12.6: rows of all widths and steps, by each kind; what is filtered comes
// back.
func TestFilter(t *testing.T) {
	t.Parallel()
	for width := 1; width <= 20; width++ {
		for bpp := 1; bpp <= 8; bpp++ {
			for height := range 5 {
				seed := uint32(100*width + 10*bpp + height)
				for _, rows := range [][]byte{probe.Noise(seed, width*height), probe.Few(seed, width*height, 3), probe.Alike(255, width*height)} {
					for kind := range kinds {
						wantFilter(t, rows, width, bpp, kind, plainFilter(rows, width, bpp, kind))
					}
				}
			}
		}
	}
}

// P12.3: each row comes back by its own kind.
func TestUnfilterKinds(t *testing.T) {
	for seed := range uint32(400) {
		dice := probe.Noise(seed, 20)
		width, bpp, height := 1+int(dice[0])%30, 1+int(dice[1])%8, int(dice[2])%12
		var list []int
		for _, k := range probe.Few(seed, 12, kinds) {
			list = append(list, int(k))
		}
		rows := probe.Noise(seed, width*height)
		wantUnfilter(t, plainFilter(rows, width, bpp, list...), width, bpp, rows)
	}
	rows := probe.Noise(9, 7*25)
	for one := range kinds {
		for two := range kinds {
			wantUnfilter(t, plainFilter(rows, 7, 3, one, two), 7, 3, rows)
		}
	}
}

// P12.3: all pairs of bytes to the left and above, and the byte itself less than
// what is taken from it, and more.
func TestMeans(t *testing.T) {
	for a := range 256 {
		for b := range 256 {
			x := 3 * (a + b)
			wantFilter(t, []byte{0, byte(b), byte(a), byte(x)}, 2, 1, 3, []byte{3, 0, byte(b), 3, byte(a), byte(x - (a+b)/2)})
		}
	}
}

// P12.3: of bytes of all sizes the nearest, those that are as near among them.
func TestNearest(t *testing.T) {
	var some []int
	for x := 0; x < 256; x += 7 {
		some = append(some, x)
	}
	some = append(some, 1, 2, 3, 100, 127, 128, 129, 253, 254, 255)
	met := map[string]int{}
	for _, a := range some {
		for _, b := range some {
			for _, c := range some {
				goal := a + b - c
				da, db, dc := plainDistance(a, goal), plainDistance(b, goal), plainDistance(c, goal)
				want, name := a, "a"
				switch {
				case da <= db && da <= dc:
				case db <= dc:
					want, name = b, "b"
				default:
					want, name = c, "c"
				}
				if da == db || da == dc || db == dc {
					name += " of several"
				}
				met[name]++
				// A byte of nought shows what is taken from it.
				wantFilter(t, []byte{byte(c), byte(b), byte(a), 0}, 2, 1, 4, []byte{4, byte(c), byte(b - c), 4, byte(a - c), byte(-want)})
			}
		}
	}
	// c is never the nearest of several: as near as a, it's nearer than b or is b.
	for _, name := range []string{"a", "b", "c", "a of several", "b of several"} {
		if met[name] < 100 {
			t.Error("of some there are but few:", met)
		}
	}
}

// P12.3: no rows are filtered to none, of all that may be.
func TestNoRows(t *testing.T) {
	for _, width := range []int{1, 2, 1000, mostWidth} {
		for _, bpp := range []int{1, 8} {
			for kind := range kinds {
				wantFilter(t, nil, width, bpp, kind, nil)
			}
		}
	}
}

// wrongNumbers are such as are too small or too great for numbers from least to
// most.
func wrongNumbers(least, most int) []int {
	return append(probe.Far(), least-1, least-2, -1, -256, most+1, most+2, 2*most, math.MinInt32)
}

// P12.3: widths, steps and kinds that may not be; the ends of what may be.
func TestFilterArgs(t *testing.T) {
	rows := probe.Noise(1, 12)
	for _, width := range wrongNumbers(1, mostWidth) {
		if width >= 1 && width <= mostWidth {
			continue
		}
		for _, list := range [][]byte{nil, rows} {
			wantFilterFault(t, list, width, 1, 0)
			wantUnfilterFault(t, list, width, 1, api.ErrArgs)
			wantUnfilterFault(t, append([]byte{9}, list...), width, 1, api.ErrArgs)
		}
	}
	for _, bpp := range wrongNumbers(1, 8) {
		for _, list := range [][]byte{nil, rows} {
			wantFilterFault(t, list, 3, bpp, 0)
			wantUnfilterFault(t, list, 3, bpp, api.ErrArgs)
			wantUnfilterFault(t, append([]byte{9}, list...), 3, bpp, api.ErrArgs)
		}
	}
	for _, kind := range wrongNumbers(0, 4) {
		wantFilterFault(t, rows, 3, 1, kind)
		wantFilterFault(t, nil, 3, 1, kind)
	}
	for _, kind := range []int{256, 257, 260, 1<<32 + 1} {
		wantFilterFault(t, rows, 3, 1, kind)
	}
}

// P12.3: the widest rows that may be.
func TestWidest(t *testing.T) {
	t.Parallel()
	rows := probe.Noise(1, 2*mostWidth)
	for kind := range kinds {
		wantFilter(t, rows, mostWidth, 8, kind, plainFilter(rows, mostWidth, 8, kind))
	}
	wide := make([]byte, mostWidth+1)
	wantFilterFault(t, wide, mostWidth+1, 1, 0)
	wantFilterFault(t, wide, mostWidth, 1, 0)
	wantUnfilterFault(t, append(wide, 0), mostWidth+1, 1, api.ErrArgs)
	wantUnfilterFault(t, append(wide, 0), mostWidth, 1, api.ErrMalformed)
}

// P12.3: rows that aren't whole.
func TestRest(t *testing.T) {
	for width := 1; width <= 9; width++ {
		for n := range 40 {
			if n%width != 0 {
				wantFilterFault(t, make([]byte, n), width, 2, 1)
			}
			if n%(width+1) != 0 {
				wantUnfilterFault(t, make([]byte, n), width, 2, api.ErrMalformed)
			}
		}
	}
}

// P12.3: a row's kind that is none, wherever it stands.
func TestUnfilterKindsThatAreNone(t *testing.T) {
	const width, height = 3, 4
	good := plainFilter(probe.Noise(1, width*height), width, 1, 0, 1, 2, 3, 4)
	for y := range height {
		for kind := kinds; kind < 256; kind++ {
			b := slices.Clone(good)
			b[y*(width+1)] = byte(kind)
			wantUnfilterFault(t, b, width, 1, api.ErrMalformed)
		}
	}
	// A row's other bytes may be all there are.
	wantUnfilter(t, []byte{0, 255, 5, 4}, 3, 1, []byte{255, 5, 4})
	wantUnfilterFault(t, []byte{5, 0}, 1, 1, api.ErrMalformed)
}

// P12.3: what comes back of any bytes is filtered to these again.
func TestUnfilterNoise(t *testing.T) {
	for seed := range uint32(200) {
		width, bpp := 1+int(seed)%11, 1+int(seed)%8
		for kind := range kinds {
			b := probe.Noise(seed, 4*(width+1))
			for y := range 4 {
				b[y*(width+1)] = byte(kind)
			}
			rows, e := chunk.Unfilter(b, width, bpp)
			if e != api.OK {
				t.Fatal(width, bpp, kind, e)
			}
			wantFilter(t, rows, width, bpp, kind, b)
		}
	}
}
