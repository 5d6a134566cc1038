package pnm_test

import (
	"fmt"
	"regexp"
	"slices"
	"strconv"
	"testing"

	"darkroom/api"
	"darkroom/pnm"
	"darkroom/probe"
)

// A plain reader finds a file's parts by patterns, told by the chapter. What it
// reads are runes below 256, one for each byte.

const (
	gap    = `(?:[\t\n\v\f\r ]|#[^\n\r]*[\n\r])+`
	digits = `([0-9]{1,9})`
)

var (
	blackHead   = regexp.MustCompile(`(?s)^P([14])` + gap + digits + gap + digits)
	gradedHead  = regexp.MustCompile(`(?s)^P([2356])` + gap + digits + gap + digits + gap + digits)
	firstBit    = regexp.MustCompile(`(?s)^` + gap + `([01])`)
	laterBit    = regexp.MustCompile(`(?s)^(?:` + gap + `)?([01])`)
	gradedOne   = regexp.MustCompile(`(?s)^` + gap + digits)
	oneSpace    = regexp.MustCompile(`(?s)^[\t\n\v\f\r ]`)
	digitBehind = regexp.MustCompile(`^[0-9]`)
)

func plainDecode(b []byte, most int) (api.Image, api.Errno) {
	if len(b) > api.MaxFile {
		return api.Image{}, api.ErrLimit
	}
	var runes []rune
	for _, c := range b {
		runes = append(runes, rune(c))
	}
	text := string(runes)
	found := blackHead.FindStringSubmatch(text)
	if found == nil {
		found = gradedHead.FindStringSubmatch(text)
	}
	if found == nil || digitBehind.MatchString(text[len(found[0]):]) {
		return api.Image{}, api.ErrMalformed
	}
	list := []int{1, 1, 1, 1}
	for i, s := range found[1:] {
		list[i], _ = strconv.Atoi(s)
	}
	kind, w, h, top := list[0], list[1], list[2], list[3]
	switch {
	case w == 0 || h == 0 || top == 0 || top > greatest:
		return api.Image{}, api.ErrMalformed
	case w > 4096 || h > 4096 || w*h > 65536 || w*h > most:
		return api.Image{}, api.ErrLimit
	}
	n := w * h
	if isColor(kind) {
		n *= 3
	}
	samples := plainPacked(text[len(found[0]):], kind, w, h, n, top)
	if isText(kind) {
		samples = plainText(text[len(found[0]):], kind, n)
	}
	if len(samples) < n || slices.Max(samples) > top {
		return api.Image{}, api.ErrMalformed
	}
	return plainImage(samples, kind, w, h, top), api.OK
}

// plainText answers as many samples as there are, but n at most.
func plainText(text string, kind, n int) []int {
	var list []int
	for len(list) < n {
		pattern := gradedOne
		if kind == 1 && len(list) == 0 {
			pattern = firstBit
		} else if kind == 1 {
			pattern = laterBit
		}
		found := pattern.FindStringSubmatch(text)
		if found == nil || kind != 1 && digitBehind.MatchString(text[len(found[0]):]) {
			break
		}
		text = text[len(found[0]):]
		v, _ := strconv.Atoi(found[1])
		list = append(list, v)
	}
	return list
}

// plainPacked answers all samples, or none.
func plainPacked(text string, kind, w, h, n, top int) []int {
	if !oneSpace.MatchString(text) {
		return nil
	}
	b, list := []rune(text)[1:], []int{}
	length := n
	if kind == 4 {
		length = (w + 7) / 8 * h
	} else if top > 255 {
		length = 2 * n
	}
	if len(b) < length {
		return nil
	}
	for i := range n {
		switch {
		case kind == 4:
			row := b[i/w*((w+7)/8):]
			list = append(list, int(row[i%w/8])>>(7-i%w%8)&1)
		case top > 255:
			list = append(list, 256*int(b[2*i])+int(b[2*i+1]))
		default:
			list = append(list, int(b[i]))
		}
	}
	return list
}

func plainImage(samples []int, kind, w, h, top int) api.Image {
	var all []uint16
	for _, v := range samples {
		switch {
		case isColor(kind):
			all = append(all, probe.Up(v, top))
		case isGraded(kind):
			all = append(all, probe.Up(v, top), probe.Up(v, top), probe.Up(v, top))
		default:
			v = greatest * (1 - v)
			all = append(all, uint16(v), uint16(v), uint16(v))
		}
	}
	return probe.Solid(w, h, all...)
}

// smallFiles are files of all kinds, with few pixels, written in several ways.
func smallFiles() []string {
	var all []string
	for _, s := range []probe.Size{{1, 1}, {3, 1}, {2, 2}, {9, 1}, {1, 3}} {
		for _, kind := range kinds() {
			for i, top := range []int{1, 9, 255, 300, greatest} {
				all = append(all, string(plainEncode(probe.Image(uint32(i), s.W, s.H), kind, top)))
			}
		}
	}
	return append(all,
		"P1#x\n1 1\n1", "P1 3 2 #\r101#\n010", "P1\t8\v1\f10101010", "P2 2 2 9 1 2\r\n#3\n3 4#", "P3#a\r#b\n1\r\n1 255 1\n2\n#x\r3 ",
		"P2 1 1 3\n# a\n01 and more", "P4 10 2 \xFF\xC0\x00\x3F", "P5 2 1 9 #\x09", "P5 2 1 99 ##\n", "P6 1 1 9#\r \x01\x02\x03",
		"P2 000000001 1 000000255 000000254", "P1 2 2 0 1 1 0", "P1 2 2 0110", "P2 3 1 7 7 0 7", "P5 1 1 256\n\x01\x00")
}

// changed answers a file with some bytes changed, put in, or taken out.
func changed(file string, seed uint32) string {
	letters := " \t\n\v\f\r#0011234569P\x00\x08\x0E\x1F!/:\x85\xA0\xFF-+x"
	return string(probe.Changed([]byte(file), []byte(letters), seed))
}

// P10.1: files, and such with a few bytes changed, against the plain reader.
func TestDecodeChanged(t *testing.T) {
	t.Parallel()
	met := map[api.Errno]int{}
	for i, file := range smallFiles() {
		for k := range uint32(600) {
			b := []byte(changed(file, 1000*uint32(i)+k))
			most := int(k%13) + 1
			m, e := pnm.Decode(b, most)
			want, wantE := plainDecode(b, most)
			if s := probe.Other(m, e, want, wantE); s != "" {
				t.Fatalf("Decode(%q, %d) = %s", b, most, s)
			}
			met[e]++
		}
	}
	if len(met) != 3 || met[api.OK] < 5000 || met[api.ErrMalformed] < 5000 || met[api.ErrLimit] < 5000 {
		t.Error("of some answers there are but few:", fmt.Sprint(met))
	}
}

// P10.1: texts of the few letters that gaps and numbers are of, against the plain
// reader.
func TestDecodeOfLetters(t *testing.T) {
	t.Parallel()
	met := map[api.Errno]int{}
	for seed := range uint32(60000) {
		b := []byte{'P', "123456"[seed%6]}
		for _, x := range probe.Noise(seed, 24) {
			b = append(b, "  \n\r##011120"[int(x)%12])
		}
		m, e := pnm.Decode(b, 9)
		want, wantE := plainDecode(b, 9)
		if s := probe.Other(m, e, want, wantE); s != "" {
			t.Fatalf("Decode(%q, 9) = %s", b, s)
		}
		met[e]++
	}
	if met[api.OK] < 1000 || met[api.ErrMalformed] < 1000 || met[api.ErrLimit] < 1000 {
		t.Error("of some answers there are but few:", fmt.Sprint(met))
	}
}
