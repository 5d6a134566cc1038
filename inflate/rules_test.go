package inflate_test

import (
	"bytes"
	"compress/flate"
	"io"
	"math"
	"slices"
	"strings"
	"sync"
	"testing"

	"darkroom/api"
	"darkroom/inflate"
	"darkroom/probe"
)

// texts are bytes of all kinds to be deflated.
func texts() map[string][]byte {
	all := map[string][]byte{
		"nothing":  nil,
		"one":      {7},
		"alike":    alikeBytes('a', 100000),
		"noise":    probe.Noise(1, 70000),
		"words":    []byte(strings.Repeat("a line of a text that is told again, ", 50)),
		"few":      probe.Noise(2, 20000),
		"far":      slices.Concat(probe.Noise(3, 32000), probe.Noise(3, 32000)),
		"rising":   make([]byte, 66000),
		"sparse":   make([]byte, 50000),
		"two ways": []byte("abcabcabdabcabdabcaacbacbacb"),
	}
	for i := range all["few"] {
		all["few"][i] %= 5
	}
	for i := range all["rising"] {
		all["rising"][i] = byte(i / 256)
	}
	for i := range all["sparse"] {
		if i*i%997 == 1 {
			all["sparse"][i] = byte(i)
		}
	}
	return all
}

func deflated(t *testing.T, b []byte, level int) []byte {
	t.Helper()
	var w bytes.Buffer
	z, err := flate.NewWriter(&w, level)
	if err != nil {
		t.Fatal(err)
	}
	z.Write(b)
	z.Close()
	return w.Bytes()
}

// P4.1: what another program deflates, whole and cut off.
func TestRawOfTheLibrary(t *testing.T) {
	for _, out := range texts() {
		for level := -2; level <= 9; level++ {
			b := deflated(t, out, level)
			wantRaw(t, b, len(out), out, len(b))
			wantRaw(t, append(bytes.Clone(b), 0xFF, 0), plenty, out, len(b))
			if len(out) > 0 {
				wantFault(t, b, len(out)-1, api.ErrLong)
			}
			for _, n := range []int{0, 1, len(b) / 3, len(b) - 1} {
				wantFault(t, b[:n], plenty, api.ErrEnd)
			}
		}
	}
}

// packedStreams are short ones, of the kinds 1 and 2 alone.
func packedStreams(t *testing.T) [][]byte {
	t.Helper()
	p, q := fixed(), pair{deep(286, 6), deep(30, 10)}
	few := pair{alike(0, 260), []int{0, 1}}
	for _, symbol := range []int{1, 2, 256, 259} {
		few.literals[symbol] = 2
	}
	early, late := pair{literals: append(alike(0, 8), full(278)...)}, pair{literals: full(270)}
	return [][]byte{
		pack(head(last, 1)+p.bytes([]byte("abcab\xF0"))+p.match(7, 6)+p.literal('x')+p.match(20, 13)+p.end(), "0"),
		pack(told(last, q)+q.bytes([]byte("tt"))+q.match(3, 2)+q.end(), "0"),
		pack(told(last, few)+few.bytes([]byte{1, 2, 2})+few.match(5, 2)+few.end(), "0"),
		pack(wideHead(last, 286, 30)+times(17, 5)+times(16, 3)+each(wide, full(278))+each(wide, full(22))+times(17, 8)+
			early.bytes([]byte("hi"))+early.end(), "0"),
		pack(wideHead(last, 286, 30)+each(wide, full(270))+times(18, 26)+each(wide, full(20))+
			late.bytes([]byte("hi"))+late.end(), "0"),
		deflated(t, texts()["two ways"], 9),
		deflated(t, texts()["words"], 9),
	}
}

// someStreams are short ones, of each kind of block.
func someStreams(t *testing.T) [][]byte {
	t.Helper()
	p := fixed()
	list := append(packedStreams(t), storedBytes(last, []byte("abcdef")),
		pack(stored(head(further, 1)+p.literal(200)+p.end(), further, "1", []byte("xy"))+head(last, 1)+p.match(4, 3)+p.end(), "1"))
	for i := range 3 {
		list = append(list, deflated(t, probe.Noise(uint32(i), 9), -2))
	}
	return list
}

// wantAsTold holds Raw against the plain reader, and both against another
// program.
func wantAsTold(t *testing.T, b []byte, most int) {
	t.Helper()
	out, begun, e := inflate.Raw(b, most)
	wantOut, wantBegun, wantE := plainRaw(b, most)
	if !bytes.Equal(out, wantOut) || begun != wantBegun || e != wantE {
		t.Fatalf("Raw(%s, %d) = %s, %d, %d; want %s, %d, %d", probe.Short(b), most, probe.Short(out), begun, e, probe.Short(wantOut), wantBegun, wantE)
	}
	if e == api.ErrLong {
		return
	}
	r := bytes.NewReader(b)
	libOut, err := io.ReadAll(flate.NewReader(r))
	if (err == nil) != (e == api.OK) || err == nil && (!bytes.Equal(libOut, out) || len(b)-r.Len() != begun) {
		t.Fatalf("Raw(%s, %d) = %s, %d, %d; the library: %s, %d, %v", probe.Short(b), most, probe.Short(out), begun, e, probe.Short(libOut), len(b)-r.Len(), err)
	}
}

// P4.1: streams cut off at each byte, with each bit turned round and each byte
// made another one, with all kinds of most.
func TestBrokenStreamsAsTold(t *testing.T) {
	for _, b := range someStreams(t) {
		out, _, e := inflate.Raw(b, plenty)
		if e != api.OK {
			t.Fatalf("Raw(%s) = %d", probe.Short(b), e)
		}
		for _, most := range []int{plenty, len(out), len(out) - 1, 0} {
			for n := range len(b) {
				wantAsTold(t, b[:n], most)
			}
			for bit := range 8 * len(b) {
				c := bytes.Clone(b)
				c[bit/8] ^= 1 << (bit % 8)
				wantAsTold(t, c, most)
			}
		}
		for at := range b {
			for _, x := range []byte{0, 0xFF, 0x55, 0xAA} {
				c := bytes.Clone(b)
				c[at] = x
				wantAsTold(t, c, plenty)
			}
			wantAsTold(t, slices.Delete(bytes.Clone(b), at, at+1), plenty)
			wantAsTold(t, slices.Insert(bytes.Clone(b), at, b[at]), plenty)
		}
	}
}

// P4.1: a stream cut off at each of its bits.
func TestStreamsCutOffAtEachBit(t *testing.T) {
	for _, b := range packedStreams(t) {
		text := textOf(b)
		// The last seven bits may be what fills the last byte up.
		for n := range len(text) - 7 {
			wantEndFault(t, text[:n], plenty, api.ErrEnd)
		}
	}
}

// P4.1, R1: bytes that are no stream at all end in some way, and in that which
// the chapter tells.
func TestNoiseAsTold(t *testing.T) {
	for i := range 3000 {
		b := probe.Noise(uint32(i), 1+i%90)
		for kind := range 3 {
			b[0] = b[0]&^6 | byte(2*kind)
			for _, most := range []int{plenty, i % 30} {
				wantAsTold(t, b, most)
			}
			out, e := inflate.Zlib(append([]byte{0x78, 0x9C}, b...), i%50)
			if e == api.OK || len(out) != 0 {
				t.Fatal(probe.Short(b), probe.Short(out), e)
			}
			// A table's beginning is good, what stands behind isn't.
			text := wideHead(last, 257+int(b[0])%30, 1+i%30) + textOf(b)
			wantAsTold(t, pack(text, "0"), plenty)
		}
	}
}

// P4.1, R1: very long streams of very short blocks, and very long matches.
func TestLongStreams(t *testing.T) {
	p := fixed()
	none := pack(strings.Repeat(head(further, 1)+p.end(), 8*5000), "0")
	wantRaw(t, append(none, 3, 0), 0, nil, len(none)+2)
	none = bytes.Repeat([]byte{0, 0, 0, 0xFF, 0xFF}, 50000)
	wantRaw(t, append(none, 3, 0), 0, nil, len(none)+2)
	text := head(last, 1) + p.literal('m') + strings.Repeat(p.match(258, 1), 20000) + p.end()
	b := pack(text, "0")
	wantRaw(t, b, 1+20000*258, alikeBytes('m', 1+20000*258), len(b))
	wantFault(t, b, 20000*258, api.ErrLong)
	wantFault(t, b[:len(b)-2], math.MaxInt, api.ErrEnd)
}

// handedIn are some arguments of all outcomes.
func handedIn(t *testing.T) [][]byte {
	list := append(someStreams(t), nil, []byte{}, []byte{7}, []byte{3, 2}, []byte{0xFD, 0xFF, 0xFF}, []byte{75})
	for _, b := range someStreams(t) {
		out, _, _ := inflate.Raw(b, plenty)
		list = append(list, wrapped(b, out), wrapped(b, []byte("else")), append(bytes.Clone(b), 1, 2, 3))
	}
	return append(list, storedBytes(last, probe.Noise(7, 3000)), wrapped(storedBytes(last, probe.Noise(7, 300)), probe.Noise(7, 300)))
}

// R4: what is handed in stays, spare room included; what stands behind it isn't
// read; what is answered is new memory.
func TestKeepsAndSharesNothing(t *testing.T) {
	for _, b := range handedIn(t) {
		for _, most := range []int{plenty, 3, 0, -1} {
			given, all := probe.Roomy(b)
			before := string(all)
			raw, n, e := inflate.Raw(given, most)
			raw2, _, _ := inflate.Raw(given, most)
			out, ze := inflate.Zlib(given, most)
			out2, _ := inflate.Zlib(given, most)
			wantB, wantN, wantE := plainRaw(b, most)
			was := string(out)
			probe.Spoil(raw)
			probe.Spoil(out)
			if string(all) != before {
				t.Fatal("what was handed in was changed:", probe.Short(b), most)
			}
			probe.Spoil(all)
			if string(raw2) != string(wantB) || n != wantN || e != wantE {
				t.Fatal("Raw shares memory, or reads what wasn't handed in:", probe.Short(b), most, n, e)
			}
			if out3, e := inflate.Zlib(b, most); string(out2) != was || string(out3) != was || e != ze {
				t.Fatal("Zlib shares memory, or reads what wasn't handed in:", probe.Short(b), most, ze)
			}
		}
	}
}

// R4: the rest of a stream, in spare room behind the list, isn't read.
func TestSpareRoomIsNotRead(t *testing.T) {
	for _, b := range someStreams(t) {
		for n := range len(b) {
			wantFault(t, b[:n], plenty, api.ErrEnd)
		}
		out, _, _ := inflate.Raw(b, plenty)
		z := wrapped(b, out)
		for n := range len(z) {
			wantZlibFault(t, z[:n], plenty, api.ErrEnd)
		}
	}
}

// R5 and R6: no call hangs on those ahead of it, nor on those beside it.
func TestCallsHangOnNothingElse(t *testing.T) {
	list := handedIn(t)
	var ws sync.WaitGroup
	for i := range 8 {
		ws.Go(func() {
			for j := range list {
				b := list[(j*(2*i+1)+i)%len(list)]
				wantB, wantN, wantE := plainRaw(b, 50)
				out, n, e := inflate.Raw(b, 50)
				if !bytes.Equal(out, wantB) || n != wantN || e != wantE {
					t.Error(probe.Short(b), probe.Short(out), n, e)
				}
				first, firstE := inflate.Zlib(b, 50)
				if again, e := inflate.Zlib(b, 50); !bytes.Equal(again, first) || e != firstE {
					t.Error(probe.Short(b), probe.Short(again), e)
				}
			}
		})
	}
	ws.Wait()
}
