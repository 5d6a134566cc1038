package gif

import (
	mathbits "math/bits"
	"slices"

	"darkroom/api"
	"darkroom/bits"
	"darkroom/lzw"
	"darkroom/quant"
	"darkroom/raster"
)

const (
	mostColors = 256   // of a palette, a clear one among them
	opaque     = 32768 // the least alpha of a pixel that isn't clear
	leastSize  = 2     // of codes
	longest    = 255   // how many bytes a sub-block may have
)

// Encode answers an image as a file of one picture.
func Encode(m api.Image) ([]byte, api.Errno) {
	g, e := raster.Grid(m)
	if e != api.OK {
		return nil, e
	}
	palette, hole := paletteOf(m, slices.ContainsFunc(g.Cells(), isClear))
	// There are as many colours as there may be.
	p, _ := quant.Apply(m, palette)
	return fileOf(p, hole), api.OK
}

func isClear(c api.Color) bool { return c.A < opaque }

// paletteOf answers the colours that a good image is to have, with a clear one or
// without, and the clear index.
func paletteOf(m api.Image, holed bool) ([]api.Color, int) {
	if !holed {
		list, _ := quant.Palette(m, mostColors)
		return list, noHole
	}
	list, _ := quant.Palette(m, mostColors-1)
	return withHole(list), len(list)
}

// withHole answers colours with a clear one behind them.
func withHole(list []api.Color) []api.Color {
	var hole api.Color
	if len(list) > 0 {
		// In a file it is a colour like others. With one that stands ahead of it, it
		// is nearer to no pixel than they are.
		hole = list[0]
		hole.A = 0
	}
	return append(list, hole)
}

// fileOf answers the file of a picture with this clear index.
func fileOf(p api.Paletted, hole int) []byte {
	told := max(mathbits.Len(uint(len(p.Palette)-1)), 1) - 1
	w := &writer{bits.NewWriter(false)}
	w.screen(p, told)
	if hole != noHole {
		w.bytes(extraBlock, controlKind)
		w.blocks([]byte{0: hasHole, holeAt: byte(hole)})
	}
	w.picture(p, max(told+1, leastSize))
	w.bytes(end)
	return w.out.Bytes()
}

// A writer is what was written of a file.
type writer struct {
	out *bits.Writer
}

func (w *writer) bytes(list ...byte) {
	for _, x := range list {
		w.out.Put(uint32(x), 8)
	}
}

// pairs writes numbers, two bytes each.
func (w *writer) pairs(list ...int) {
	for _, v := range list {
		w.out.Put(uint32(v), 16)
	}
}

// screen writes what stands ahead of all blocks. Flags tell this number of the
// palette, which has room for all colours.
func (w *writer) screen(p api.Paletted, told int) {
	w.bytes([]byte(mark)...)
	w.pairs(p.W, p.H)
	w.bytes(byte(hasPalette|told), 0, 0)
	room := make([]byte, entrySize*entries(told))
	for i, c := range p.Palette {
		copy(room[entrySize*i:], entryOf(c))
	}
	w.bytes(room...)
}

// picture writes a picture that covers the screen, in codes of a size that all of its
// indices fit into.
func (w *writer) picture(p api.Paletted, size int) {
	w.bytes(pictureBlock)
	w.pairs(0, 0, p.W, p.H)
	w.bytes(0, byte(size))
	codes, _ := lzw.GifPack(p.Index, size)
	w.blocks(codes)
}

// blocks writes bytes as sub-blocks.
func (w *writer) blocks(b []byte) {
	for block := range slices.Chunk(b, longest) {
		w.bytes(byte(len(block)))
		w.bytes(block...)
	}
	w.bytes(0)
}
