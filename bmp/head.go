package bmp

import (
	"darkroom/api"
)

// head reads a head, or answers its first fault.
func (f fields) head() (head, api.Errno) {
	begins := f.number(markAt, 2) == mark
	h := head{second: f.number(secondAt, 4)}
	if !f.whole() || !begins {
		return head{}, api.ErrMalformed
	}
	if e := h.secondFault(); e != api.OK {
		return head{}, e
	}
	// All that is looked at may be there, and what is behind it in the head not.
	f.number(h.end()-1, 1)
	one := f.number(planesAt, 2) == planes
	h.place = f.number(placeAt, 4)
	h.width = f.signed(widthAt)
	h.height = f.signed(heightAt)
	h.depth = f.number(depthAt, 2)
	h.packing = f.number(packingAt, 4)
	h.count = f.number(countAt, 4)
	if !f.whole() || !one {
		return head{}, api.ErrMalformed
	}
	return h.checked()
}

// secondFault answers what is wrong with the second head's size.
func (h head) secondFault() api.Errno {
	switch h.second {
	case 12, 16, 64:
		return api.ErrUnsupported
	case shortHead, noAlphaHead, 56, longHead, 124:
		return api.OK
	}
	return api.ErrMalformed
}

// checked answers a head that was read with its height's sign told apart and a
// count of nought told in full, or else its first fault.
func (h head) checked() (head, api.Errno) {
	if h.height < 0 {
		h.height, h.down = -h.height, true
	}
	if h.width < 1 || h.height == 0 || !mayBeDepth(h.depth) {
		return head{}, api.ErrMalformed
	}
	if e := h.packingFault(); e != api.OK {
		return head{}, e
	}
	if h.hasPalette() {
		most := 1 << h.depth
		if h.count > most {
			return head{}, api.ErrMalformed
		}
		if h.count == 0 {
			h.count = most
		}
	}
	return h, api.OK
}

func mayBeDepth(n int) bool {
	switch n {
	case 1, 4, 8, 16, 24, 32:
		return true
	}
	return false
}

// packingFault answers what is wrong with how the pixels are packed.
func (h head) packingFault() api.Errno {
	fits := false
	switch h.packing {
	case asJpeg, asPng:
		return api.ErrUnsupported
	case plain:
		fits = true
	case runsOfEight:
		fits = h.depth == 8 && !h.down
	case runsOfFour:
		fits = h.depth == 4 && !h.down
	case masked, alphaMasked:
		fits = h.depth == 16 || h.depth == 32
	}
	if !fits {
		return api.ErrMalformed
	}
	return api.OK
}
