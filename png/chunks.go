package png

import (
	"slices"

	"darkroom/api"
	"darkroom/bits"
	"darkroom/chunk"
)

// How great a palette is.
const (
	entrySize   = 3
	mostEntries = 256
)

// A picture is what the chunks of a file tell.
type picture struct {
	head
	packed []byte         // the data of all pixels
	met    map[string]int // how many chunks of each type there were
	latest string         // the last one's type
}

// pictureOf reads chunks, of which there is one at least, or answers the first
// one's fault that has any.
func pictureOf(cs []api.Chunk) (*picture, api.Errno) {
	h, ok := headOf(cs[0].Data)
	if !ok || cs[0].Type != headType {
		return nil, api.ErrMalformed
	}
	p := &picture{head: h, met: map[string]int{}}
	for _, c := range cs[1:] {
		if e := p.take(c); e != api.OK {
			return nil, e
		}
		p.met[c.Type]++
		p.latest = c.Type
	}
	return p, api.OK
}

// take takes a chunk behind the first one, or answers its fault.
func (p *picture) take(c api.Chunk) api.Errno {
	ok := true
	switch c.Type {
	case headType:
		ok = false
	case paletteType:
		ok = p.none(paletteType, clearType, dataType) && p.takePalette(c.Data)
	case clearType:
		ok = p.none(clearType, dataType) && p.takeClear(c.Data)
	case dataType:
		ok = p.none(dataType) || p.latest == dataType
		p.packed = append(p.packed, c.Data...)
	case endType:
		ok = len(c.Data) == 0 && p.isWhole()
	default:
		if chunk.Critical(c.Type) {
			return api.ErrUnsupported
		}
	}
	if !ok {
		return api.ErrMalformed
	}
	return api.OK
}

// none tells whether there were no chunks of these types.
func (p *picture) none(types ...string) bool {
	return !slices.ContainsFunc(types, func(typ string) bool { return p.met[typ] > 0 })
}

// isWhole tells whether there were all chunks that there must be.
func (p *picture) isWhole() bool {
	_, wanted := p.colours.(byPalette)
	return !p.none(dataType) && !(wanted && p.none(paletteType))
}

// takePalette takes a palette, and tells whether it may be.
func (p *picture) takePalette(data []byte) bool {
	n := len(data) / entrySize
	if len(data)%entrySize != 0 || n < 1 || n > mostEntries {
		return false
	}
	switch c := p.colours.(type) {
	case byPalette:
		if n > p.top()+1 {
			return false
		}
		for x := range slices.Chunk(data, entrySize) {
			c.palette = append(c.palette, api.Color{R: ofByte(x[0]), G: ofByte(x[1]), B: ofByte(x[2]), A: solid})
		}
		p.colours = c
		return true
	case rgb, rgbAlpha:
		// Theirs but advises those who can show few colours.
		return true
	}
	return false
}

// takeClear takes what is clear, and tells whether that may be.
func (p *picture) takeClear(data []byte) bool {
	switch c := p.colours.(type) {
	case grey:
		c.clear = pairs(data)
		p.colours = c
		return len(data) == 2*c.planes()
	case rgb:
		c.clear = pairs(data)
		p.colours = c
		return len(data) == 2*c.planes()
	case byPalette:
		if p.none(paletteType) || len(data) > len(c.palette) {
			return false
		}
		for i, a := range data {
			c.palette[i].A = ofByte(a)
		}
		return true
	}
	return false
}

// ofByte answers the sample that a byte is.
func ofByte(x byte) uint16 { return up(int(x), byteTop) }

// pairs answers the numbers that each two bytes are, the higher one first.
func pairs(b []byte) []int {
	var list []int
	for at := 0; at+2 <= len(b); at += 2 {
		v, _ := bits.Get(b, at, 2, true)
		list = append(list, int(v))
	}
	return list
}
