package probe

import (
	"bytes"
	"slices"
	"strings"
)

// Few is noise of so many letters.
func Few(seed uint32, n, letters int) []byte {
	b := Noise(seed, n)
	for i := range b {
		b[i] = byte(int(b[i]) * letters / 256)
	}
	return b
}

// Alike answers n times the byte x.
func Alike(x byte, n int) []byte { return bytes.Repeat([]byte{x}, n) }

// Each answers all bytes, each once.
func Each() []byte {
	b := make([]byte, 256)
	for i := range b {
		b[i] = byte(i)
	}
	return b
}

// NoneAgain answers n bytes, at most 65536, of which no three, nor any two,
// come again.
func NoneAgain(n int) []byte {
	var b []byte
	for x := 0; x < 256 && len(b) < n; x++ {
		b = append(b, byte(x))
		for y := x + 1; y < 256; y++ {
			b = append(b, byte(x), byte(y))
		}
	}
	return b[:n]
}

// Pieces answers a text put together of so many pieces: noise, few letters,
// letters all alike, and what stood in the text already.
func Pieces(seed uint32, n int) []byte {
	dice := Noise(seed, 4*n)
	var b []byte
	for i := range uint32(n) {
		kind, x, y, z := dice[4*i], dice[4*i+1], dice[4*i+2], dice[4*i+3]
		length := int(x)*(1+int(y)%4) + 1
		switch from := len(b) - int(y)*16 - int(z); {
		case kind%4 == 0:
			b = append(b, Noise(seed+i, length)...)
		case kind%4 == 1:
			b = append(b, Few(seed+i, length, 2+int(z)%40)...)
		case kind%4 == 2 || from < 0:
			b = append(b, Alike(z, length)...)
		default:
			// What is told again may go on into itself.
			for k := range length {
				b = append(b, b[from+k])
			}
		}
	}
	return b
}

// Changed answers a file with up to three bytes changed, put in, or taken out, or
// its end cut off. The new bytes are some of letters.
func Changed(file, letters []byte, seed uint32) []byte {
	dice := Noise(seed, 16)
	b := slices.Clone(file)
	for i := range int(dice[0]) % 4 {
		d := dice[4*i+1 : 4*i+5]
		place := (int(d[0]) + 256*int(d[3])) % (len(b) + 1)
		letter := letters[int(d[1])%len(letters)]
		switch d[2] % 4 {
		case 0:
			b = slices.Insert(b, place, letter)
		case 1:
			b = slices.Delete(b, place, min(place+1, len(b)))
		case 2:
			b = slices.Replace(b, place, min(place+1, len(b)), letter)
		default:
			if d[3]%4 == 0 {
				b = b[:place]
			}
		}
	}
	return b
}

// A Text is bytes to be packed.
type Text struct {
	Name string
	B    []byte
}

// Texts are of all kinds, each short enough to be packed often.
func Texts() []Text {
	few5, few2 := Few(1, 9000, 5), Few(2, 9000, 2)
	return []Text{
		{"nothing", nil},
		{"one", []byte{7}},
		{"two", []byte{0xFF, 0}},
		{"three alike", Alike('x', 3)},
		{"four alike", Alike('x', 4)},
		{"each byte", Each()},
		{"each byte twice", slices.Repeat(Each(), 2)},
		{"words", []byte(strings.Repeat("a line of a text that is told again, ", 50))},
		{"no two alike", []byte("no two alike: xyzw")},
		{"three again", []byte("abcabdabeabfabgabhabcab")},
		{"noise", Noise(1, 5000)},
		{"five letters", few5},
		{"two letters", few2},
		{"high bytes", bytes.Map(func(r rune) rune { return r%40 + 60 }, few5)},
		{"none again", NoneAgain(6000)},
		{"noise, then alike", slices.Concat(Noise(3, 900), Alike(9, 900))},
		{"alike, then noise", slices.Concat(Alike(9, 900), Noise(3, 900))},
	}
}
