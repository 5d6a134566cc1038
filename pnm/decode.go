package pnm

import (
	"iter"

	"darkroom/api"
	"darkroom/bits"
	"darkroom/sizes"
	"darkroom/tones"
)

// Decode answers the image of a file, of at most so many pixels.
func Decode(b []byte, most int) (api.Image, api.Errno) {
	if len(b) > api.MaxFile {
		return api.Image{}, api.ErrLimit
	}
	s := &scan{left: b}
	h, ok := s.head()
	if !ok {
		return api.Image{}, api.ErrMalformed
	}
	if sizes.TooGreat(h.width, h.height, most) {
		return api.Image{}, api.ErrLimit
	}
	if h.text {
		return h.image(s.text(h))
	}
	return h.image(s.packed(h))
}

// head takes a head, and tells whether there was one.
func (s *scan) head() (head, bool) {
	f, ok := s.form()
	if !ok {
		return head{}, false
	}
	h := head{form: f, top: 1}
	numbers := []*int{&h.width, &h.height}
	if h.graded {
		numbers = append(numbers, &h.top)
	}
	for _, p := range numbers {
		if !s.gap() {
			return head{}, false
		}
		if *p, ok = s.number(); !ok || *p < 1 {
			return head{}, false
		}
	}
	return h, h.top <= greatest
}

// form takes the letter and the digit of a kind, and answers its form.
func (s *scan) form() (form, bool) {
	if !s.starts('P', 'P') {
		return form{}, false
	}
	s.next()
	kind, _ := s.digit()
	return formOf(kind)
}

// text gives samples in digits, as far as there are such.
func (s *scan) text(h head) iter.Seq[int] {
	return func(yield func(int) bool) {
		sample := s.digit
		if h.graded {
			sample = s.number
		}
		if !s.gap() {
			return
		}
		for range h.height * h.width * h.planes() {
			v, ok := sample()
			if !ok || !yield(v) {
				return
			}
			// Where numbers stand, no next one is found without a gap.
			s.gap()
		}
	}
}

// packed gives samples packed into bytes, as far as there are such.
func (s *scan) packed(h head) iter.Seq[int] {
	return func(yield func(int) bool) {
		if !s.space() {
			return
		}
		r := bits.NewReader(s.left, true)
		for range h.height {
			for range h.width * h.planes() {
				v, e := r.Take(h.depth())
				if e != api.OK || !yield(int(v)) {
					return
				}
			}
			r.Align()
		}
	}
}

// image answers the image that such samples are, row by row.
func (h head) image(list iter.Seq[int]) (api.Image, api.Errno) {
	whole := samples * h.width * h.height
	pix := make([]uint16, 0, whole)
	for v := range list {
		u, e := tones.Up(v, h.top)
		if e != api.OK {
			return api.Image{}, api.ErrMalformed
		}
		// One sample that a pixel has is each of its colours.
		for range colors / h.planes() {
			pix = append(pix, h.turned(u))
		}
		if len(pix)%samples == colors {
			pix = append(pix, greatest)
		}
	}
	if len(pix) < whole {
		return api.Image{}, api.ErrMalformed
	}
	return api.Image{W: h.width, H: h.height, Pix: pix}, api.OK
}
