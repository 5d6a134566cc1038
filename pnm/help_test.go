package pnm_test

import (
	"bytes"
	"fmt"
	"slices"
	"strings"
	"testing"

	"darkroom/api"
	"darkroom/pnm"
	"darkroom/probe"
)

const (
	greatest = 65535
	// plenty is as many pixels as an image may have.
	plenty = api.MaxPixels
)

// kinds are all there are.
func kinds() []int { return []int{1, 2, 3, 4, 5, 6} }

// isText, isColor, isGraded tell of a kind what its files are like.
func isText(kind int) bool   { return kind == 1 || kind == 2 || kind == 3 }
func isColor(kind int) bool  { return kind == 3 || kind == 6 }
func isGraded(kind int) bool { return kind != 1 && kind != 4 }

// tops are top values of all sorts.
func tops() []int {
	return []int{1, 2, 3, 4, 7, 9, 15, 99, 100, 127, 128, 254, 255, 256, 257, 1000, 4095, 32767, 32768, 65534, greatest}
}

// luma is a pixel's grey.
func luma(c api.Color) uint16 {
	return uint16((19595*int(c.R) + 38470*int(c.G) + 7471*int(c.B) + 32768) / 65536)
}

// numbers answers what a pixel is in a file, in the order of the file.
func numbers(c api.Color, kind, top int) []int {
	switch grey := luma(c); {
	case isColor(kind):
		return []int{probe.Down(c.R, top), probe.Down(c.G, top), probe.Down(c.B, top)}
	case isGraded(kind):
		return []int{probe.Down(grey, top)}
	case grey < 32768:
		return []int{1}
	}
	return []int{0}
}

// plainEncode writes an image as the chapter tells, row by row.
func plainEncode(m api.Image, kind, top int) []byte {
	var b bytes.Buffer
	fmt.Fprintf(&b, "P%d\n%d %d\n", kind, m.W, m.H)
	if isGraded(kind) {
		fmt.Fprintf(&b, "%d\n", top)
	}
	for row := range slices.Chunk(probe.ColorsOf(m), m.W) {
		var list []int
		for _, c := range row {
			list = append(list, numbers(c, kind, top)...)
		}
		b.Write(plainRow(list, kind, top))
	}
	return b.Bytes()
}

func plainRow(list []int, kind, top int) []byte {
	var b []byte
	switch {
	case isText(kind):
		return []byte(strings.Trim(fmt.Sprint(list), "[]") + "\n")
	case kind == 4:
		for eight := range slices.Chunk(list, 8) {
			v := 0
			for i, bit := range eight {
				v += bit * []int{128, 64, 32, 16, 8, 4, 2, 1}[i]
			}
			b = append(b, byte(v))
		}
	case top < 256:
		for _, v := range list {
			b = append(b, byte(v))
		}
	default:
		for _, v := range list {
			b = append(b, byte(v/256), byte(v%256))
		}
	}
	return b
}

// rounded answers what an image is when it was written and read again.
func rounded(m api.Image, kind, top int) api.Image {
	all := probe.ColorsOf(m)
	for i, c := range all {
		list := numbers(c, kind, top)
		switch {
		case isColor(kind):
			all[i] = api.Color{R: probe.Up(list[0], top), G: probe.Up(list[1], top), B: probe.Up(list[2], top), A: greatest}
		case isGraded(kind):
			v := probe.Up(list[0], top)
			all[i] = api.Color{R: v, G: v, B: v, A: greatest}
		default:
			v := uint16(greatest * (1 - list[0]))
			all[i] = api.Color{R: v, G: v, B: v, A: greatest}
		}
	}
	return probe.ImageOf(m.W, m.H, all)
}

// wantImage wants an image out of a file.
func wantImage(t *testing.T, file string, most int, want api.Image) {
	m, e := pnm.Decode([]byte(file), most)
	if s := probe.Other(m, e, want, api.OK); s != "" {
		t.Helper()
		t.Fatalf("Decode(%s, %d) = %s", told(file), most, s)
	}
}

// wantFault wants an error of a file, and nothing beside it.
func wantFault(t *testing.T, file string, most int, want api.Errno) {
	m, e := pnm.Decode([]byte(file), most)
	if s := probe.Other(m, e, api.Image{}, want); s != "" {
		t.Helper()
		t.Fatalf("Decode(%s, %d) = %s", told(file), most, s)
	}
}

// wantFile wants a file of an image.
func wantFile(t *testing.T, m api.Image, kind, top int, want string) {
	b, e := pnm.Encode(m, kind, top)
	if e != api.OK || string(b) != want {
		t.Helper()
		t.Fatalf("Encode(%s, %d, %d) = %s, %d; want %s", probe.Told(m), kind, top, told(string(b)), e, told(want))
	}
}

// wantNoFile wants an error, and nothing beside it.
func wantNoFile(t *testing.T, m api.Image, kind, top int, want api.Errno) {
	b, e := pnm.Encode(m, kind, top)
	if e != want || len(b) != 0 {
		t.Helper()
		t.Fatalf("Encode(%s, %d, %d) = %s, %d; want %d", probe.Told(m), kind, top, told(string(b)), e, want)
	}
}

// told tells a file, but not all of a great one.
func told(file string) string {
	const most = 200
	if len(file) <= most {
		return fmt.Sprintf("%q", file)
	}
	return fmt.Sprintf("%q .. (%d)", file[:most], len(file))
}
