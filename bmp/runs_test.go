package bmp_test

import (
	"slices"
	"testing"

	"darkroom/api"
	"darkroom/probe"
)

// A drawing is a file of runs: of depth 8 or 4, with as many greys as there may be.
type drawing struct{ width, height, depth int }

func (d drawing) file(runs ...byte) []byte {
	f := file{second: 40, width: d.width, height: d.height, depth: d.depth, packing: 2, pixels: runs}
	if d.depth == 8 {
		f.packing = 1
	}
	f.palette = greyRamp(1 << d.depth)
	return f.bytes()
}

// image answers the image of these indices, told from the bottom row on.
func (d drawing) image(indices ...int) api.Image {
	all := make([]int, d.width*d.height)
	copy(all, indices)
	return flipped(ramp(d.width, d.height, 1<<d.depth, all...))
}

// all answers the byte that is this index all over.
func (d drawing) all(index int) byte {
	if d.depth == 8 {
		return byte(index)
	}
	return byte(17 * index)
}

func (d drawing) want(t *testing.T, indices []int, runs ...byte) {
	t.Helper()
	wantImage(t, d.file(runs...), plenty, d.image(indices...))
}

func (d drawing) wantMalformed(t *testing.T, runs ...byte) {
	t.Helper()
	wantMalformed(t, d.file(runs...))
}

// P11.1: runs of a byte, and of two halves in turn, as long as a row and less, and
// not longer.
func TestRuns(t *testing.T) {
	for n := 1; n <= 255; n++ {
		for _, w := range []int{n, n + 1, 300} {
			d := drawing{w, 2, 8}
			all := make([]int, 2*w)
			for i := range n {
				all[i] = 201
			}
			d.want(t, all, byte(n), 201, 0, 1)
			all[w] = 7
			d.want(t, all, byte(n), 201, 0, 0, 1, 7, 0, 1)
			d.depth = 4
			for i := range n {
				all[i] = 12 - 9*(i%2)
			}
			d.want(t, all, byte(n), 0xC3, 0, 0, 1, 0x7F, 0, 1)
		}
		if n > 1 {
			for _, depth := range []int{4, 8} {
				d := drawing{n - 1, 2, depth}
				d.wantMalformed(t, byte(n), 0, 0, 1)
				d.wantMalformed(t, 0, 0, byte(n), 0, 0, 1)
				// A run doesn't go on in the next row, whatever room there is.
				d.wantMalformed(t, byte(n-1), 0, 1, 0, 0, 1)
			}
		}
	}
}

// P11.1: each run of halves begins with the high one, also where the one ahead ended
// with that.
func TestHalvesBeginAnew(t *testing.T) {
	d := drawing{9, 1, 4}
	d.want(t, []int{1, 2, 1, 3, 4, 3, 5, 6, 7}, 3, 0x12, 3, 0x34, 0, 3, 0x56, 0x7F, 0, 1)
	d.want(t, []int{1, 3, 5, 7}, 1, 0x12, 1, 0x34, 1, 0x56, 1, 0x78, 0, 1)
	d.want(t, []int{5, 6, 7, 1, 2, 1, 2, 3}, 0, 3, 0x56, 0x7F, 4, 0x12, 1, 0x34, 0, 1)
}

// P11.1: pixels that stand as they are, in a multiple of two bytes, of 3 to 255.
func TestAsTheyStand(t *testing.T) {
	for n := 3; n <= 255; n++ {
		d := drawing{n, 2, 8}
		noise := probe.Noise(uint32(n), n)
		indices := make([]int, 2*n)
		for i, x := range noise {
			indices[i] = int(x)
		}
		indices[n] = 9
		even := noise
		if n%2 == 1 {
			even = append(slices.Clone(noise), 0xEE)
		}
		runs := slices.Concat([]byte{0, byte(n)}, even)
		d.want(t, indices, append(runs, 0, 0, 1, 9, 0, 1)...)
		d.want(t, indices[:n], append(runs, 0, 1)...)
		d.wantMalformed(t, runs...)
		d.wantMalformed(t, append(runs, 0)...)
		d.wantMalformed(t, runs[:len(runs)-1]...)
		d.wantMalformed(t, append(slices.Clone(runs[:len(runs)-1]), 1)...)
		d.width--
		d.wantMalformed(t, append(runs, 0, 1)...)
	}
}

// P11.1: the same in halves, the high one first.
func TestHalvesAsTheyStand(t *testing.T) {
	for n := 3; n <= 255; n++ {
		d := drawing{n + 1, 1, 4}
		noise := probe.Noise(uint32(n), (n+1)/2)
		indices := make([]int, n+1)
		for i := range n {
			indices[i] = int(noise[i/2]) >> (4 - i%2*4) & 15
		}
		indices[n] = 11
		if len(noise)%2 == 1 {
			noise = append(noise, 0xEE)
		}
		runs := slices.Concat([]byte{0, byte(n)}, noise)
		d.want(t, indices, append(runs, 1, 0xB7, 0, 1)...)
		d.wantMalformed(t, append(runs, 2, 0xB7, 0, 1)...)
		d.wantMalformed(t, append(slices.Clone(runs[:len(runs)-1]), 0, 1)...)
		d.width = n - 1
		d.wantMalformed(t, append(runs, 0, 1)...)
		d.width = n
		d.want(t, indices[:n], append(runs, 0, 1)...)
	}
}

// P11.1: to the beginning of the next row, as far as the row behind the last one.
func TestNextRow(t *testing.T) {
	for _, depth := range []int{4, 8} {
		d := drawing{3, 2, depth}
		d.want(t, []int{0, 0, 0, 1}, 0, 0, 1, d.all(1), 0, 1)
		d.want(t, nil, 0, 0, 0, 0, 0, 1)
		d.wantMalformed(t, 0, 0, 0, 0, 0, 0, 0, 1)
		d.wantMalformed(t, 0, 0, 0, 0, 1, 0, 0, 1)
		d.wantMalformed(t, 0, 0, 0, 0, 0, 3, 0, 0, 0, 0, 0, 1)
		d.want(t, nil, 3, 0, 0, 0, 3, 0, 0, 0, 0, 1)
		d.wantMalformed(t, 3, 0, 0, 0, 3, 0, 0, 0, 0, 0, 0, 1)
		d.wantMalformed(t, 3, 0, 0, 0, 3, 0, 0, 0, 1, 0, 0, 1)
	}
	d := drawing{4, 3, 8}
	d.want(t, []int{1, 2, 0, 0, 3, 0, 0, 0, 4, 4, 4, 4}, 1, 1, 1, 2, 0, 0, 1, 3, 0, 0, 4, 4, 0, 1)
	// No row is begun of itself behind a full one.
	d.wantMalformed(t, 4, 1, 4, 2, 4, 3, 0, 1)
	d.want(t, []int{1, 1, 1, 1, 2, 2, 2, 2, 3, 3, 3, 3}, 4, 1, 0, 0, 4, 2, 0, 0, 4, 3, 0, 1)
}

// P11.1: so many pixels on, so many rows up: each jump from each place.
func TestJumps(t *testing.T) {
	for _, depth := range []int{4, 8} {
		d := drawing{4, 3, depth}
		for x := range 5 {
			for y := range 3 {
				for dx := range 7 {
					for dy := range 6 {
						var runs []byte
						for range y {
							runs = append(runs, 0, 0)
						}
						if x > 0 {
							runs = append(runs, byte(x), 0)
						}
						runs = append(runs, 0, 2, byte(dx), byte(dy))
						if x+dx > 4 || y+dy > 3 {
							d.wantMalformed(t, append(runs, 0, 1)...)
							continue
						}
						d.want(t, nil, append(runs, 0, 1)...)
						more := append(runs, 1, d.all(9), 0, 1)
						if x+dx == 4 || y+dy == 3 {
							d.wantMalformed(t, more...)
							continue
						}
						indices := make([]int, 12)
						indices[x+dx+4*(y+dy)] = 9
						d.want(t, indices, more...)
					}
				}
			}
		}
		for _, far := range []byte{5, 100, 127, 128, 254, 255} {
			d.wantMalformed(t, 0, 2, far, 0, 0, 1)
			d.wantMalformed(t, 0, 2, 0, far, 0, 1)
			d.wantMalformed(t, 0, 2, far, far, 0, 1)
		}
	}
	// Behind a row's end the next row begins at its beginning, and a jump goes on
	// from where the pen is.
	d := drawing{3, 4, 8}
	d.want(t, []int{0, 0, 0, 0, 0, 5, 6}, 0, 2, 2, 1, 1, 5, 0, 0, 1, 6, 0, 1)
	d.want(t, []int{1, 2, 0, 0, 0, 3}, 1, 1, 1, 2, 0, 2, 0, 1, 1, 3, 0, 1)
	d.want(t, nil, 0, 2, 3, 4, 0, 1)
	d.want(t, nil, 0, 2, 0, 4, 0, 2, 3, 0, 0, 1)
	d.wantMalformed(t, 0, 2, 0, 4, 0, 0, 0, 1)
	d.wantMalformed(t, 0, 2, 0, 4, 0, 2, 0, 1, 0, 1)
	d.want(t, nil, 0, 2, 0, 0, 0, 2, 0, 0, 0, 1)
	wide := drawing{300, 200, 8}
	all := make([]int, 300*200)
	all[255+300*199] = 77
	wide.want(t, all, 0, 2, 255, 199, 1, 77, 0, 1)
}

// P11.1: what isn't drawn is index 0, and bytes behind the end aren't looked at.
func TestEndOfRuns(t *testing.T) {
	for _, depth := range []int{4, 8} {
		d := drawing{5, 4, depth}
		d.want(t, nil, 0, 1)
		d.want(t, nil, 0, 1, 0)
		d.want(t, nil, 0, 1, 200, 200, 200)
		d.want(t, nil, 0, 1, 0, 0, 0, 0, 0, 0, 0, 0, 0, 0, 0, 0)
		d.want(t, []int{0, 0, 0, 0, 0, 3}, 0, 0, 1, d.all(3), 0, 1, 9, 9)
		for _, runs := range [][]byte{{}, {0}, {1}, {1, 0}, {1, 0, 0}, {0, 0}, {0, 0, 0}, {0, 2}, {0, 2, 0}, {0, 2, 1}, {0, 2, 0, 0}, {0, 2, 0, 1}, {0, 3}, {0, 3, 0}, {0, 4, 0, 1}, {0, 2, 0}, {0, 5, 0, 0, 0, 0}} {
			d.wantMalformed(t, runs...)
		}
	}
	// The picture that no run draws on is the first entry all over.
	f := file{second: 40, width: 2, height: 1, depth: 8, packing: 1, count: 1, palette: []uint32{0x102030}, pixels: []byte{0, 1}}
	wantImage(t, f.bytes(), plenty, probe.Solid(2, 1, 0x1010, 0x2020, 0x3030, 0x1010, 0x2020, 0x3030))
}

// P11.1: an index that a run draws has an entry, the low half that isn't drawn
// needn't.
func TestIndicesOfRuns(t *testing.T) {
	f := file{second: 40, width: 4, height: 1, depth: 8, packing: 1, count: 3, palette: greyRamp(3)}
	for v := range 256 {
		for _, runs := range [][]byte{{1, byte(v), 0, 1}, {4, byte(v), 0, 1}, {0, 3, 0, 1, byte(v), 0, 0, 1}} {
			f.pixels = runs
			if v < 3 {
				wantAsTold(t, f.bytes(), plenty)
			} else {
				wantMalformed(t, f.bytes())
			}
		}
	}
	f.depth, f.packing = 4, 2
	for v := range 256 {
		f.pixels = []byte{1, byte(v), 0, 1}
		if v < 3<<4 {
			wantImage(t, f.bytes(), plenty, ramp(4, 1, 3, v>>4, 0, 0, 0))
		} else {
			wantMalformed(t, f.bytes())
		}
		f.pixels = []byte{2, byte(v), 0, 1}
		if v < 3<<4 && v&15 < 3 {
			wantImage(t, f.bytes(), plenty, ramp(4, 1, 3, v>>4, v&15, 0, 0))
		} else {
			wantMalformed(t, f.bytes())
		}
	}
}

// P11.1: runs stand from the bottom up.
func TestRunsFromTheTop(t *testing.T) {
	for _, b := range runFiles() {
		h := int(b[atHeight])
		wantMalformed(t, with(b, atHeight, 4, -h))
		wantFault(t, with(b, atHeight, 4, -h), 0, api.ErrMalformed)
		wantMalformed(t, with(with(b, atHeight, 4, -h), atCount, 4, 257))
	}
}

// P11.1: a great picture of runs, one for each row, and one for each pixel.
func TestManyRuns(t *testing.T) {
	d := drawing{256, 256, 8}
	var runs []byte
	indices := make([]int, 1<<16)
	for y := range 256 {
		for x := range 256 {
			indices[256*y+x] = (x*y + x) & 255
			runs = append(runs, 1, byte(x*y+x))
		}
		runs = append(runs, 0, 0)
	}
	d.want(t, indices, append(runs, 0, 1)...)
	d.wantMalformed(t, append(runs, 0, 0, 0, 1)...)
	d.wantMalformed(t, runs...)
	// Jumps that go nowhere, as many as there may be.
	d.want(t, nil, append(slices.Repeat([]byte{0, 2, 0, 0}, 1000000), 0, 1)...)
}
