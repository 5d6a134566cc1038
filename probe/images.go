package probe

import (
	"slices"
	"strconv"
	"strings"

	"darkroom/api"
)

// Colors answers n colours that look like none in particular, the same each time
// for one seed.
func Colors(seed uint32, n int) []api.Color {
	b := Noise(seed, 8*n)
	list := make([]api.Color, n)
	for i := range list {
		s := func(k int) uint16 { return uint16(b[8*i+k])<<8 | uint16(b[8*i+k+1]) }
		list[i] = api.Color{R: s(0), G: s(2), B: s(4), A: s(6)}
	}
	return list
}

// Image answers an image of such colours.
func Image(seed uint32, w, h int) api.Image { return ImageOf(w, h, Colors(seed, w*h)) }

// EachSample answers an image with each sample as one of a pixel's four, the one of
// this number.
func EachSample(plane int) api.Image {
	m := Image(uint32(plane), 256, 256)
	for v := range greatest + 1 {
		m.Pix[4*v+plane] = uint16(v)
	}
	return m
}

// ImageOf answers an image of these colours, row by row.
func ImageOf(w, h int, colors []api.Color) api.Image {
	m := api.Image{W: w, H: h}
	for _, c := range colors {
		m.Pix = append(m.Pix, c.R, c.G, c.B, c.A)
	}
	return m
}

// ColorsOf are all of an image's pixels.
func ColorsOf(m api.Image) []api.Color {
	var all []api.Color
	for i := 0; i < len(m.Pix); i += 4 {
		all = append(all, api.Color{R: m.Pix[i], G: m.Pix[i+1], B: m.Pix[i+2], A: m.Pix[i+3]})
	}
	return all
}

// Greys answers an image of solid greys.
func Greys(w, h int, list ...uint16) api.Image {
	var all []api.Color
	for _, v := range list {
		all = append(all, api.Color{R: v, G: v, B: v, A: greatest})
	}
	return ImageOf(w, h, all)
}

// Solid answers an image of solid colours, three numbers a pixel.
func Solid(w, h int, list ...uint16) api.Image {
	var all []api.Color
	for c := range slices.Chunk(list, 3) {
		all = append(all, api.Color{R: c[0], G: c[1], B: c[2], A: greatest})
	}
	return ImageOf(w, h, all)
}

// Sampled answers an image, good or not, with n samples.
func Sampled(w, h, n int) api.Image {
	return api.Image{W: w, H: h, Pix: slices.Repeat([]uint16{7}, n)}
}

// BadImages are such as aren't good.
func BadImages() []api.Image {
	bad := []api.Image{{}, {Pix: []uint16{1, 2, 3, 4}}}
	for _, s := range WrongSizes() {
		bad = append(bad, Sampled(s.W, s.H, 0), Sampled(s.W, s.H, 4))
		// Just as many as there would be, if such a size might be.
		if n := s.W * s.H; n > 0 && n <= 1<<17 {
			bad = append(bad, Sampled(s.W, s.H, 4*n))
		}
	}
	for _, s := range Sizes() {
		n := 4 * s.W * s.H
		for _, wrong := range []int{0, 1, n / 4, n - 4*s.W, n - 4, n - 1, n + 1, n + 4, n + 4*s.W, 2 * n} {
			bad = append(bad, Sampled(s.W, s.H, wrong))
		}
	}
	return append(bad, RoomyImage(Sampled(1, 1, 3)), RoomyImage(Sampled(1, 1, 5)), RoomyImage(Sampled(2, 2, 15)))
}

// RoomyImage answers an image whose samples are the middle of a greater list.
func RoomyImage(m api.Image) api.Image {
	m.Pix, _ = Roomy(m.Pix)
	return m
}

// Told tells an image, but not all samples of a great one.
func Told(m api.Image) string {
	var t strings.Builder
	t.WriteString(strconv.Itoa(m.W) + " by " + strconv.Itoa(m.H) + ":")
	for _, s := range m.Pix[:min(len(m.Pix), mostTold)] {
		t.WriteString(" " + strconv.Itoa(int(s)))
	}
	if len(m.Pix) > mostTold {
		t.WriteString(" .. (" + strconv.Itoa(len(m.Pix)) + ")")
	}
	return t.String()
}

// Other tells an image, and the error that it was answered with, and what they
// should be, "" if they are that. Beside an error should be the zero image.
func Other(m api.Image, e api.Errno, want api.Image, wantE api.Errno) string {
	if e == wantE && m.W == want.W && m.H == want.H && slices.Equal(m.Pix, want.Pix) {
		return ""
	}
	place := 0
	for place < min(len(m.Pix), len(want.Pix)) && m.Pix[place] == want.Pix[place] {
		place++
	}
	return Told(m) + ", " + strconv.Itoa(int(e)) + "; want " + Told(want) + ", " + strconv.Itoa(int(wantE)) + "; alike up to sample " + strconv.Itoa(place)
}
