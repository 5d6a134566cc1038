package quant

import (
	"slices"
)

// A bag holds things, each of which weighs something.
type bag[T any] struct {
	weigh  func(T) int
	things []T
}

// put lays things into a bag.
func (b *bag[T]) put(things ...T) { b.things = append(b.things, things...) }

// take takes the thing that weighs the most out of a bag that isn't empty, of
// several the one that was put first.
func (b *bag[T]) take() T {
	place, most := 0, b.weigh(b.things[0])
	for i, thing := range b.things {
		if w := b.weigh(thing); w > most {
			place, most = i, w
		}
	}
	thing := b.things[place]
	b.things = slices.Delete(b.things, place, place+1)
	return thing
}
