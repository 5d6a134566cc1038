package quant

import (
	"darkroom/api"
)

// step is how far two samples of depth 8 are from one another that are next to
// one another.
const step = solid / top

// fewer answers just so many colours of tints, which are more: one of each box
// into which they are cut.
func fewer(tints []tint, most int) []api.Color {
	boxes := &bag[box]{weigh: func(b box) int { return b.gain }}
	boxes.put(newBox(tints))
	for len(boxes.things) < most {
		boxes.put(boxes.take().cut()...)
	}
	var list []api.Color
	for _, b := range boxes.things {
		list = append(list, middle(b.tints))
	}
	return list
}

// A box holds tints that are near to one another, and knows where to cut it best.
type box struct {
	tints []tint
	// It is cut behind this number of depth 8 along this axis; the squares of how
	// far its pixels are from their mean are then less by gain: 0 of one tint alone.
	axis, fence, gain int
}

func newBox(tints []tint) box {
	b := box{tints: tints}
	for axis := range axes {
		b.look(axis)
	}
	return b
}

// look looks for a better cut along an axis.
func (b *box) look(axis int) {
	var heaps [top + 1]heap
	for _, t := range b.tints {
		h := &heaps[t.at(axis)/step]
		*h = h.with(t, axis)
	}
	low, high := heap{}, heapOf(b.tints, axis)
	for v, h := range heaps {
		low, high = low.plus(h), high.less(h)
		if g := gain(low, high); g > b.gain {
			b.axis, b.fence, b.gain = axis, v, g
		}
	}
}

// gain answers by how much the sum of the squares of how far samples are from
// their mean is less, if they are parted into these two heaps.
func gain(low, high heap) int {
	if low.count == 0 || high.count == 0 {
		return 0
	}
	// The means of two heaps are at least a step from one another, so that this
	// can't be nought; and with so few pixels as an image has it can't wrap round.
	d := high.mean() - low.mean()
	return low.count * high.count * d * d / (low.count + high.count)
}

// cut answers the two boxes into which one with more than one tint is cut.
func (b box) cut() []box {
	var low, high []tint
	for _, t := range b.tints {
		if t.at(b.axis)/step <= b.fence {
			low = append(low, t)
		} else {
			high = append(high, t)
		}
	}
	return []box{newBox(low), newBox(high)}
}
