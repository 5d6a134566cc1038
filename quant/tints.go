package quant

import (
	"darkroom/api"
	"darkroom/tones"
)

// axes is how many samples of a colour count.
const axes = 3

// A tint is an eight-bit colour, and of how many pixels it is.
type tint struct {
	color api.Color
	count int
}

// at answers the sample of an axis.
func (t tint) at(axis int) int {
	return [axes]int{int(t.color.R), int(t.color.G), int(t.color.B)}[axis]
}

// tally answers the tints of the pixels that aren't clear, in the order in which
// they are met.
func tally(pixels []api.Color) []tint {
	var all []tint
	places := map[api.Color]int{}
	for _, c := range pixels {
		if isClear(c) {
			continue
		}
		c = eightBit(c)
		place, met := places[c]
		if !met {
			place = len(all)
			places[c] = place
			all = append(all, tint{color: c})
		}
		all[place].count++
	}
	return all
}

// colors answers tints without their counts.
func colors(tints []tint) []api.Color {
	var list []api.Color
	for _, t := range tints {
		list = append(list, t.color)
	}
	return list
}

// middle answers the colour of some tints that is nearest to their mean: the mean
// itself might be none of the image's.
func middle(tints []tint) api.Color {
	mean := func(axis int) uint16 { return uint16(heapOf(tints, axis).mean()) }
	list := colors(tints)
	return list[tones.Nearest(list, api.Color{R: mean(0), G: mean(1), B: mean(2)})]
}

// A heap is of how many pixels an axis' samples are summed up, and their sum.
type heap struct {
	count, sum int
}

// heapOf answers the heap of all pixels of some tints.
func heapOf(tints []tint, axis int) heap {
	var h heap
	for _, t := range tints {
		h = h.with(t, axis)
	}
	return h
}

func (h heap) with(t tint, axis int) heap {
	return heap{count: h.count + t.count, sum: h.sum + t.count*t.at(axis)}
}

func (h heap) plus(other heap) heap {
	return heap{count: h.count + other.count, sum: h.sum + other.sum}
}

func (h heap) less(other heap) heap {
	return heap{count: h.count - other.count, sum: h.sum - other.sum}
}

// mean answers the mean of the samples of a heap that isn't empty, rounded down.
func (h heap) mean() int { return h.sum / h.count }
