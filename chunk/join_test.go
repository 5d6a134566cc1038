package chunk_test

import (
	"slices"
	"testing"

	"darkroom/api"
	"darkroom/chunk"
	"darkroom/probe"
)

// P12.2: the end alone, told byte by byte.
func TestJoinKnown(t *testing.T) {
	wantJoin(t, ended(), []byte{137, 80, 78, 71, 13, 10, 26, 10, 0, 0, 0, 0, 'I', 'E', 'N', 'D', 0xAE, 0x42, 0x60, 0x82})
}

// P12.2, P12.6: chunks of all lengths and types are read as they were.
func TestJoin(t *testing.T) {
	for _, cs := range lists() {
		wantJoin(t, cs, file(cs))
		b, _ := chunk.Join(cs)
		wantSplit(t, b, cs)
	}
}

// P12.2, P12.6: many lists of chunks that nobody chose.
func TestJoinNoise(t *testing.T) {
	const letters = "ABIJNYZDEabyz"
	for seed := range uint32(300) {
		var cs []api.Chunk
		dice := probe.Noise(seed, 50)
		for i := range uint32(dice[0] % 9) {
			var typ []byte
			for _, x := range probe.Few(100*seed+i, 4, len(letters)) {
				typ = append(typ, letters[x])
			}
			cs = append(cs, api.Chunk{Type: string(typ), Data: probe.Noise(seed+i, int(dice[1+i])*int(dice[11+i]%20))})
		}
		if slices.ContainsFunc(cs, func(c api.Chunk) bool { return c.Type == "IEND" }) {
			continue
		}
		cs = ended(cs...)
		wantJoin(t, cs, file(cs))
		wantSplit(t, file(cs), cs)
	}
}

// P12.2: the end stands as the last one and nowhere else.
func TestJoinEnd(t *testing.T) {
	a, end := api.Chunk{Type: "IDAT", Data: []byte{1}}, api.Chunk{Type: "IEND"}
	other := api.Chunk{Type: "IEND", Data: []byte{1}}
	for _, cs := range [][]api.Chunk{
		nil, {}, {a}, {a, a}, {end, end}, {end, a}, {a, end, a}, {end, a, end}, {a, end, end}, {other, end}, {end, other}, {end, a, a, end},
		{{Type: "iEND"}}, {a, {Type: "IENd"}}, {{}}, {{Data: []byte{1}}},
	} {
		wantNoJoin(t, cs)
	}
	wantJoin(t, []api.Chunk{other}, file([]api.Chunk{other}))
	wantJoin(t, []api.Chunk{a, a, other}, file([]api.Chunk{a, a, other}))
}

// P12.2: a type is four letters, no more and no fewer, wherever it stands.
func TestJoinTypes(t *testing.T) {
	for _, typ := range []string{
		"", "I", "ID", "IDA", "IDATA", "IDATIDAT", "IENDs", "IEN", "ID T", "IDA\x00", "\xC3\x84BC", "\u00C4BCD", "\u00C4\u00C4", "ID-T", "1DAT", "IDA9",
		"@BCD", "ABC[", "`bcd", "abc{",
	} {
		c := api.Chunk{Type: typ, Data: []byte{1, 2}}
		a := api.Chunk{Type: "IDAT"}
		for _, cs := range [][]api.Chunk{ended(c), ended(a, c), ended(c, a), ended(a, c, a), {c}, {a, c}} {
			wantNoJoin(t, cs)
		}
	}
}
