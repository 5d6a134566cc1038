package sums_test

import (
	"fmt"
	"sync"
	"testing"

	"darkroom/probe"
	"darkroom/sums"
)

var kinds = []kind{
	{"Crc", sums.Crc, sums.CrcOn, plainCrc, 0},
	{"Adler", sums.Adler, sums.AdlerOn, plainAdler, 1},
}

// P2.1 and P2.2: sums that are known from elsewhere.
func TestKnownSums(t *testing.T) {
	for _, c := range []struct {
		b          string
		crc, adler uint32
	}{
		{"", 0, 1},
		{"\x00", 0xD202EF8D, 0x00010001},
		{"\xFF", 0xFF000000, 0x01000100},
		{"a", 0xE8B7BE43, 0x00620062},
		{"abc", 0x352441C2, 0x024D0127},
		{"IEND", 0xAE426082, 0x02D70121},
		{"123456789", 0xCBF43926, 0x091E01DE},
		{"Wikipedia", 0xADAAC02E, 0x11E60398},
		{"\xFF\xFF\xFF\xFF", 0xFFFFFFFF, 0x09FA03FD},
		{"The quick brown fox jumps over the lazy dog", 0x414FA339, 0x5BDC0FDA},
	} {
		wantSum(t, fmt.Sprintf("Crc(%q)", c.b), sums.Crc([]byte(c.b)), c.crc)
		wantSum(t, fmt.Sprintf("Adler(%q)", c.b), sums.Adler([]byte(c.b)), c.adler)
	}
}

// P2.1 and P2.2: many bytes alike, which bring Adler's halves to 65521 and past
// it, and to nought.
func TestManyBytesAlike(t *testing.T) {
	for _, c := range []struct {
		x          byte
		n          int
		crc, adler uint32
	}{
		{0, 32, 0x190A55AD, 0x00200001},
		{0, 65520, 0xADD6BE80, 0xFFF00001},
		{0, 65521, 0x3F17BA13, 0x00000001},
		{0, 65522, 0x5683B9E9, 0x00010001},
		{0, 1000000, 0x1279CB9E, 0x43210001},
		{1, 65520, 0x1ED2BDD4, 0xFFF00000},
		{1, 65521, 0x24A51B6B, 0x00000001},
		{1, 1000000, 0x6CB4FC26, 0x0DE44322},
		{128, 65522, 0xB6E26A75, 0x00810081},
		{128, 1000000, 0xC1E4CA38, 0xA30C9270},
		{255, 32, 0xFF6CAB0B, 0x0E2E1FE1},
		{255, 256, 0xFEA8A821, 0x0800FF01},
		{255, 257, 0xB397B8F6, 0x080F000F},
		{255, 5552, 0x726528C1, 0xF18F9B8C},
		{255, 5553, 0x1311970E, 0x8E299C8B},
		{255, 65521, 0xEE552637, 0x00000001},
		{255, 1000000, 0x13FBDA0D, 0x3843E1BE},
	} {
		b := alike(c.x, c.n)
		wantSum(t, fmt.Sprintf("Crc of %d bytes %d", c.n, c.x), sums.Crc(b), c.crc)
		wantSum(t, fmt.Sprintf("Adler of %d bytes %d", c.n, c.x), sums.Adler(b), c.adler)
	}
}

// P2.1 and P2.2: every byte, alone and from every number.
func TestEveryByteFromEveryNumber(t *testing.T) {
	for _, k := range kinds {
		for x := range 256 {
			b := []byte{byte(x)}
			wantSum(t, fmt.Sprintf("%s(%02x)", k.name, b), k.of(b), k.plain(k.none, b))
			for _, n := range numbers {
				wantSum(t, fmt.Sprintf("%sOn(%08X, %02x)", k.name, n, b), k.on(n, b), k.plain(n, b))
			}
		}
	}
}

// P2.1 and P2.2: lists of all lengths up to some, and great ones, from every
// number.
func TestListsFromEveryNumber(t *testing.T) {
	var lists [][]byte
	for n := range 70 {
		lists = append(lists, probe.Noise(0, n), alike(255, n))
	}
	for _, n := range []int{255, 256, 257, 5551, 5552, 5553, 65521, 70000} {
		lists = append(lists, probe.Noise(0, n), alike(255, n))
	}
	for _, k := range kinds {
		for _, b := range lists {
			wantSum(t, fmt.Sprintf("%s of %d bytes", k.name, len(b)), k.of(b), k.plain(k.none, b))
			for _, n := range numbers {
				wantSum(t, fmt.Sprintf("%sOn(%08X) of %d bytes", k.name, n, len(b)), k.on(n, b), k.plain(n, b))
			}
		}
	}
}

// P2.1: sums that are known from elsewhere, gone on from numbers that are none
// of what is behind them in particular.
func TestKnownCrcOn(t *testing.T) {
	for _, c := range []struct{ from, a, digits uint32 }{
		{0, 0xE8B7BE43, 0xCBF43926},
		{1, 0x9FB08ED5, 0xDC8F2D65},
		{0x80000000, 0xE837BE43, 0xD5442DFE},
		{0xDEADBEEF, 0xD8DCEC14, 0xE34F7C78},
		{0xFFFFFFFF, 0xC54AAE31, 0xD202D277},
	} {
		wantSum(t, fmt.Sprintf("CrcOn(%08X, a)", c.from), sums.CrcOn(c.from, []byte("a")), c.a)
		wantSum(t, fmt.Sprintf("CrcOn(%08X, 1..9)", c.from), sums.CrcOn(c.from, []byte("123456789")), c.digits)
	}
}

// P2.2: halves at and above 65521 are taken modulo 65521, with bytes behind
// them and with none.
func TestAdlerOnFromGreatHalves(t *testing.T) {
	for _, c := range []struct {
		from uint32
		b    []byte
		want uint32
	}{
		{0, nil, 0},
		{0xFFF0FFF0, nil, 0xFFF0FFF0},
		{0xFFF0FFF1, nil, 0xFFF00000},
		{0xFFF1FFF0, nil, 0x0000FFF0},
		{0xFFF1FFF1, nil, 0},
		{0xFFF2FFF3, nil, 0x00010002},
		{0xFFFF0001, nil, 0x000E0001},
		{0x0001FFFF, nil, 0x0001000E},
		{0xFFFFFFFF, nil, 0x000E000E},
		{0xFFFFFFFF, []byte{0}, 0x001C000E},
		{0xFFFFFFFF, []byte{255}, 0x011B010D},
		{0xFFF0FFF0, []byte{0}, 0xFFEFFFF0},
		{0xFFF0FFF0, []byte{1}, 0xFFF00000},
		{0xFFF0FFF0, []byte{2}, 0x00000001},
		{0xFFF0FFF0, []byte{255}, 0x00FD00FE},
		{0x0000FFF0, []byte{0}, 0xFFF0FFF0},
		{0x0001FFF0, []byte{0}, 0x0000FFF0},
	} {
		wantSum(t, fmt.Sprintf("AdlerOn(%08X, %x)", c.from, c.b), sums.AdlerOn(c.from, c.b), c.want)
	}
}

// P2.1 and P2.3: with nothing behind it a sum stays, whatever CRC it is.
func TestNothing(t *testing.T) {
	for _, none := range [][]byte{nil, {}} {
		wantSum(t, "Crc of nothing", sums.Crc(none), 0)
		wantSum(t, "Adler of nothing", sums.Adler(none), 1)
		for _, n := range numbers {
			wantSum(t, "CrcOn of nothing", sums.CrcOn(n, none), n)
		}
		for n := range 300 {
			b := probe.Noise(0, n)
			wantSum(t, "AdlerOn of nothing", sums.AdlerOn(sums.Adler(b), none), sums.Adler(b))
		}
	}
}

// P2.3: wherever a list is cut, its sum is that of the first part gone on with.
func TestGoneOn(t *testing.T) {
	for _, k := range kinds {
		for _, b := range [][]byte{[]byte("123456789"), []byte("Wikipedia"), probe.Noise(0, 600), alike(255, 600), alike(0, 600)} {
			whole := k.of(b)
			for cut := 0; cut <= len(b); cut++ {
				wantSum(t, fmt.Sprintf("%s cut at %d", k.name, cut), k.on(k.of(b[:cut]), b[cut:]), whole)
			}
			piece := k.none
			for i := range b {
				piece = k.on(piece, b[i:i+1])
			}
			wantSum(t, k.name+" byte by byte", piece, whole)
		}
		b := alike(255, 200000)
		wantSum(t, k.name+" of many cut", k.on(k.of(b[:65521]), b[65521:]), k.of(b))
	}
}

// R4: what is handed in stays, and what stands behind it is neither read nor
// written.
func TestNothingHandedInIsChanged(t *testing.T) {
	all := probe.Noise(0, 300)
	before := string(all)
	b := all[10:100]
	for _, k := range kinds {
		wantSum(t, k.name, k.of(b), k.plain(k.none, []byte(before[10:100])))
		wantSum(t, k.name+"On", k.on(7, b), k.plain(7, []byte(before[10:100])))
		wantSum(t, k.name+" with no byte and spare room", k.of(all[:0]), k.none)
	}
	if string(all) != before {
		t.Error("what was handed in was changed")
	}
}

// R5 and R6: no call hangs on those ahead of it, nor on those beside it.
func TestCallsHangOnNothingElse(t *testing.T) {
	b := probe.Noise(0, 5000)
	var ws sync.WaitGroup
	for i := range 8 {
		ws.Go(func() {
			for j := range 50 {
				part := b[i*j : i*j+4000]
				for _, k := range kinds {
					wantSum(t, k.name, k.of(part), k.plain(k.none, part))
					wantSum(t, k.name+"On", k.on(uint32(j), part), k.plain(uint32(j), part))
				}
			}
		})
	}
	ws.Wait()
}
