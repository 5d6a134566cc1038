package pnm

import (
	"strconv"

	"darkroom/api"
	"darkroom/bits"
	"darkroom/grid"
	"darkroom/raster"
	"darkroom/tones"
)

// Encode answers an image as a file of a kind, its samples from 0 to top.
func Encode(m api.Image, kind, top int) ([]byte, api.Errno) {
	g, e := raster.Grid(m)
	if e != api.OK {
		return nil, e
	}
	f, ok := formOf(kind)
	if !ok || top < 1 || top > greatest {
		return nil, api.ErrRange
	}
	h := head{form: f, width: m.W, height: m.H, top: 1}
	if h.graded {
		h.top = top
	}
	if h.text {
		return h.inDigits(h.lines(kind), g), api.OK
	}
	return append(h.lines(kind), h.inBits(g)...), api.OK
}

// lines answers the head of a file.
func (h head) lines(kind int) []byte {
	text := "P" + strconv.Itoa(kind) + "\n" + strconv.Itoa(h.width) + " " + strconv.Itoa(h.height) + "\n"
	if h.graded {
		text += strconv.Itoa(h.top) + "\n"
	}
	return []byte(text)
}

// inDigits answers out with a grid's samples behind it, a line a row.
func (h head) inDigits(out []byte, g *grid.Grid[api.Color]) []byte {
	for _, row := range g.Rows() {
		between := ""
		for _, v := range h.samples(row) {
			out = append(out, between...)
			out = strconv.AppendInt(out, int64(v), 10)
			between = " "
		}
		out = append(out, '\n')
	}
	return out
}

// inBits answers a grid's samples, each row in whole bytes.
func (h head) inBits(g *grid.Grid[api.Color]) []byte {
	w := bits.NewWriter(true)
	for _, row := range g.Rows() {
		for _, v := range h.samples(row) {
			w.Put(uint32(v), h.depth())
		}
		w.Align()
	}
	return w.Bytes()
}

// samples answers what a row's pixels are in a file.
func (h head) samples(row []api.Color) []int {
	list := make([]int, 0, len(row)*h.planes())
	for _, c := range row {
		for _, s := range h.parts(c) {
			// The top value is such as Down takes.
			v, _ := tones.Down(h.turned(s), h.top)
			list = append(list, v)
		}
	}
	return list
}

// parts answers the samples of a pixel that a file tells.
func (f form) parts(c api.Color) []uint16 {
	if f.color {
		return []uint16{c.R, c.G, c.B}
	}
	return []uint16{tones.Luma(c)}
}
