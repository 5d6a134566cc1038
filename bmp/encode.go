package bmp

import (
	"slices"

	"darkroom/api"
	"darkroom/bits"
	"darkroom/raster"
)

// Encode answers an image as a file, with alpha or without.
func Encode(m api.Image, alpha bool) ([]byte, api.Errno) {
	g, e := raster.Grid(m)
	if e != api.OK {
		return nil, e
	}
	h := head{second: shortHead, width: m.W, height: m.H, depth: 24, packing: plain}
	told := ofBytes()
	if alpha {
		h.second, h.depth, h.packing = longHead, 32, masked
		told[ofAlpha] = 0xFF000000
	}
	h.place = h.end()
	var rows [][]byte
	for _, row := range g.Rows() {
		rows = append(rows, h.row(row, told))
	}
	slices.Reverse(rows)
	pixels := slices.Concat(rows...)
	return append(h.bytes(told, len(pixels)), pixels...), api.OK
}

// row answers a row of pixels as it stands in a file.
func (h head) row(row []api.Color, told masks) []byte {
	w := bits.NewWriter(false)
	for _, c := range row {
		w.Put(told.number(c), h.depth)
	}
	b := make([]byte, h.rowLength())
	copy(b, w.Bytes())
	return b
}

// bytes answers a head as it stands ahead of so many bytes of pixels.
func (h head) bytes(told masks, pixels int) []byte {
	b := make([]byte, h.end())
	set := func(at, size, v int) {
		// All places lie within the head.
		b, _ = bits.Set(b, at, size, false, uint32(v))
	}
	set(markAt, 2, mark)
	set(lengthAt, 4, h.place+pixels)
	set(placeAt, 4, h.place)
	set(secondAt, 4, h.second)
	set(widthAt, 4, h.width)
	set(heightAt, 4, h.height)
	set(planesAt, 2, planes)
	set(depthAt, 2, h.depth)
	set(packingAt, 4, h.packing)
	set(bytesAt, 4, pixels)
	if h.packing == masked {
		for i, mask := range told {
			set(masksAt+4*i, 4, int(mask))
		}
	}
	return b
}
