package inflate_test

import (
	"slices"
	"strings"
	"testing"

	"darkroom/api"
	"darkroom/probe"
)

// flat is a pair of full codes of so many symbols.
func flat(literals, distances int) pair {
	p := pair{full(literals), full(distances)}
	if distances == 1 {
		p.distances = []int{1}
	}
	return p
}

// P4.1: from 257 literals up to 286 may be told, and from 1 distance up to 30.
func TestHowManySymbols(t *testing.T) {
	for literals := 257; literals <= 286; literals++ {
		for _, distances := range []int{1, 2, 17, 29, 30} {
			p := flat(literals, distances)
			text := told(last, p) + p.literal('k')
			wantText(t, text+p.end(), []byte("k"))
			if literals > 257 {
				wantText(t, text+p.match(3, 1)+p.end(), []byte("kkkk"))
			}
		}
	}
	for distances := 1; distances <= 30; distances++ {
		p := flat(286, distances)
		wantText(t, told(last, p)+p.literal('k')+p.match(258, 1)+p.end(), alikeBytes('k', 259))
	}
}

// P4.1: more than 286 literals or 30 distances may not be, and nothing behind
// the three numbers is looked at then; but all three are wanted.
func TestTooManySymbols(t *testing.T) {
	for literals := range 32 {
		for distances := range 32 {
			if literals <= 29 && distances <= 29 {
				continue
			}
			for _, lengths := range []int{0, 9, 15} {
				text := head(last, 2) + low(literals, 5) + low(distances, 5) + low(lengths, 4)
				wantEndFault(t, text, plenty, api.ErrTable)
				wantEndFault(t, text[:len(text)-1], plenty, api.ErrEnd)
			}
		}
	}
	for n := range 14 {
		wantEndFault(t, head(last, 2)+strings.Repeat("1", n), plenty, api.ErrEnd)
	}
	for _, n := range []int{287, 288} {
		wantTextFault(t, wideHead(last, n, 30)+each(wide, full(n))+each(wide, full(30)), plenty, api.ErrTable)
	}
	for _, n := range []int{31, 32} {
		wantTextFault(t, wideHead(last, 286, n)+each(wide, full(286))+each(wide, full(n)), plenty, api.ErrTable)
	}
}

// P4.1: the lengths' code: each symbol's length stands at its own place.
func TestOrderOfTheLengthsCode(t *testing.T) {
	p := pair{deep(286, 6), deep(30, 10)}
	for symbol := range 19 {
		code := make([]int, 0, 19)
		for _, n := range full(18) {
			code = append(code, n+1)
		}
		code = slices.Insert(code, symbol, 1)
		text := head(last, 2) + tableHead(286, 30, 19, code) + each(code, p.literals) + each(code, p.distances)
		wantText(t, text+p.literal('k')+p.match(5, 1)+p.end(), []byte("kkkkkk"))
	}
}

// P4.1: lengths of the lengths' code that aren't told are 0.
func TestFewLengthsOfTheLengthsCode(t *testing.T) {
	// 257 literals want 8 and 9, the fifth and the seventh; 30 distances 4 and 5.
	p := flat(257, 30)
	for n := 12; n <= 19; n++ {
		code := alike(0, 19)
		code[8], code[9], code[4], code[5] = 2, 2, 2, 2
		text := head(last, 2) + tableHead(257, 30, n, code) + each(code, p.literals) + each(code, p.distances)
		wantText(t, text+p.literal('k')+p.end(), []byte("k"))
	}
	p = pair{full(257), []int{0}}
	for n := 7; n <= 19; n++ {
		code := with(with(with(alike(0, 19), 8, 1), 9, 2), 0, 2)
		text := head(last, 2) + tableHead(257, 1, n, code) + each(code, p.literals) + each(code, p.distances)
		wantText(t, text+p.literal('k')+p.end(), []byte("k"))
	}
	// What would be the seventh is the row's beginning: the code isn't full then.
	code := with(with(with(alike(0, 19), 8, 1), 9, 2), 0, 2)
	wantTextFault(t, head(last, 2)+tableHead(257, 1, 6, code)+"010"+each(code, p.literals), plenty, api.ErrTable)
	// With the least, four, all lengths there can be are 0.
	code = with(with(alike(0, 19), 18, 1), 0, 1)
	text := head(last, 2) + tableHead(257, 1, 4, code) + "1" + low(127, 7) + "1" + low(109, 7)
	wantTextFault(t, text, plenty, api.ErrTable)
	wantEndFault(t, text, plenty, api.ErrTable)
	wantEndFault(t, text[:len(text)-1], plenty, api.ErrEnd)
}

// P4.1: a lengths' code that may not be is told when it was read, however little
// stands behind it, and no sooner.
func TestLengthsCodesThatMayNotBe(t *testing.T) {
	codes := [][]int{
		alike(0, 19),
		alike(1, 19),
		alike(7, 19),
		with(wide, 18, 4),
		with(wide, 18, 6),
		with(wide, 18, 0),
		with(wide, 0, 3),
		with(wide, 0, 0),
		with(with(with(alike(0, 19), 3, 1), 4, 1), 18, 1),
		with(with(alike(0, 19), 3, 1), 4, 2),
		with(with(alike(0, 19), 3, 2), 4, 2),
		with(with(alike(0, 19), 0, 1), 18, 7),
	}
	for n := 2; n <= 7; n++ {
		for _, symbol := range []int{0, 8, 15, 16, 18} {
			codes = append(codes, with(alike(0, 19), symbol, n))
		}
	}
	for _, code := range codes {
		text := head(last, 2) + tableHead(257, 1, 19, code)
		wantTextFault(t, text, plenty, api.ErrTable)
		wantEndFault(t, text, plenty, api.ErrTable)
		wantEndFault(t, text[:len(text)-1], plenty, api.ErrEnd)
		wantEndFault(t, text[:len(text)-3], plenty, api.ErrEnd)
	}
}

// P4.1: a lengths' code of one symbol of length 1 may be; what is no code of it
// is told as that.
func TestLengthsCodeOfOneSymbol(t *testing.T) {
	for symbol := range 19 {
		text := head(last, 2) + tableHead(286, 30, 19, with(alike(0, 19), symbol, 1))
		wantTextFault(t, text+"1", plenty, api.ErrCode)
		wantEndFault(t, text+"1", plenty, api.ErrCode)
		wantEndFault(t, text, plenty, api.ErrEnd)
		switch symbol {
		case 16:
			wantEndFault(t, text+"0", plenty, api.ErrTable)
		case 17, 18:
			wantEndFault(t, text+"0", plenty, api.ErrEnd)
			wantTextFault(t, text+"00000000"+"1", plenty, api.ErrCode)
		default:
			wantEndFault(t, text+"0", plenty, api.ErrEnd)
			wantTextFault(t, text+"00000"+"1", plenty, api.ErrCode)
			wantEndFault(t, text+strings.Repeat("0", 315), plenty, api.ErrEnd)
			// All symbols' lengths are alike, so that no code is full.
			wantTextFault(t, text+strings.Repeat("0", 316), plenty, api.ErrTable)
			wantEndFault(t, text+strings.Repeat("0", 316), plenty, api.ErrTable)
		}
	}
}

// wantRow asks for a table whose row is written as these parts: some of p's
// symbols are read by it.
func wantRow(t *testing.T, p pair, row ...string) {
	t.Helper()
	text := wideHead(last, len(p.literals), len(p.distances)) + strings.Join(row, "")
	out := []byte{255, 250, 255}
	text += p.bytes(out)
	if len(p.literals) == 286 && p.distances[29] > 0 && p.distances[0] > 0 {
		text += p.match(258, 1)
		out = append(out, alikeBytes(255, 258)...)
	}
	wantText(t, text+p.end(), out)
}

// P4.1: 16 stands for the length ahead, 3 to 6 times.
func TestTheOneAheadAgain(t *testing.T) {
	p := flat(286, 30)
	for n := 3; n <= 6; n++ {
		for ahead := 1; ahead <= 20; ahead++ {
			wantRow(t, p, each(wide, p.literals[:ahead]), times(16, n),
				each(wide, p.literals[ahead+n:]), each(wide, p.distances))
		}
		// Behind another one.
		wantRow(t, p, each(wide, p.literals[:100]), times(16, n), times(16, 3),
			each(wide, p.literals[103+n:]), each(wide, p.distances))
		// At the row's end.
		wantRow(t, p, each(wide, p.literals), each(wide, p.distances[:30-n]), times(16, n))
		wantRow(t, p, each(wide, p.literals), each(wide, p.distances[:27-n]), times(16, n), times(16, 3))
	}
}

// P4.1: 16 behind 17 and 18 stands for 0.
func TestNoughtsAgain(t *testing.T) {
	for z := 6; z <= 9; z++ {
		p := pair{append(alike(0, z), full(286-z)...), full(30)}
		wantRow(t, p, times(17, 3), times(16, z-3), each(wide, p.literals[z:]), each(wide, p.distances))
		p = pair{append(alike(0, z+8), full(278-z)...), full(30)}
		wantRow(t, p, times(18, 11), times(16, z-3), each(wide, p.literals[z+8:]), each(wide, p.distances))
	}
}

// P4.1: 17 stands for 3 to 10 noughts, 18 for 11 to 138: at the beginning of the
// row, within it, and at its end.
func TestNoughts(t *testing.T) {
	for z := 3; z <= 138; z++ {
		symbol := 17
		if z >= 11 {
			symbol = 18
		}
		p := pair{append(alike(0, z), full(286-z)...), full(30)}
		wantRow(t, p, times(symbol, z), each(wide, p.literals[z:]), each(wide, p.distances))
		p = pair{slices.Insert(full(286-z), 40, alike(0, z)...), full(30)}
		wantRow(t, p, each(wide, p.literals[:40]), times(symbol, z), each(wide, p.literals[40+z:]), each(wide, p.distances))
		if z <= 28 {
			p = pair{full(286), append(full(30-z), alike(0, z)...)}
			wantRow(t, p, each(wide, p.literals), each(wide, p.distances[:30-z]), times(symbol, z))
		}
	}
	p := pair{full(257), alike(0, 10)}
	wantRow(t, p, each(wide, p.literals), times(17, 10))
	p = pair{full(257), alike(0, 30)}
	wantRow(t, p, each(wide, p.literals), times(18, 30))
	wantRow(t, p, each(wide, p.literals), times(17, 10), times(17, 10), times(17, 10))
	wantRow(t, p, each(wide, p.literals), times(17, 10), times(18, 20))
}

// P4.1: the row runs over from literals to distances: 16, 17 and 18 know of no
// border.
func TestRepetitionsOverTheBorder(t *testing.T) {
	for z := 2; z <= 138; z++ {
		for _, behind := range []int{1, 2, 7, 28} {
			symbol := 17
			if z+behind > 10 {
				symbol = 18
			}
			if z > 28 || z+behind > 138 {
				continue
			}
			p := pair{append(full(286-z), alike(0, z)...), append(alike(0, behind), full(30-behind)...)}
			wantRow(t, p, each(wide, p.literals[:286-z]), times(symbol, z+behind), each(wide, p.distances[behind:]))
		}
	}
	// The last four literals and the first 28 distances have 5 bits each.
	p := pair{[]int{1, 2}, append(alike(5, 28), 4, 4)}
	for _, n := range full(280) {
		p.literals = append(p.literals, n+3)
	}
	p.literals = append(p.literals, 5, 5, 5, 5)
	for n := 3; n <= 6; n++ {
		for left := 0; left <= 3; left++ {
			wantRow(t, p, each(wide, p.literals[:286-left]), times(16, n), each(wide, p.distances[n-left:]))
		}
	}
}

// P4.1: with nothing ahead of it 16 may not be, whether or not its bits are
// there.
func TestNothingToRepeat(t *testing.T) {
	text := wideHead(last, 257, 1) + plainTexts(wide)[16]
	for _, tail := range []string{"", "0", "1", "00", "11", "00" + each(wide, full(257))} {
		wantEndFault(t, text+tail, plenty, api.ErrTable)
		wantTextFault(t, text+tail, plenty, api.ErrTable)
	}
	wantEndFault(t, text[:len(text)-1], plenty, api.ErrEnd)
}

// P4.1: with something ahead of them the bits of 16, 17 and 18 are wanted, also
// where the row would be too long whatever they say.
func TestRepetitionsThatAreCutOff(t *testing.T) {
	rows := []string{
		wideHead(last, 257, 1) + each(wide, []int{8}),
		wideHead(last, 257, 1) + each(wide, full(257)),
		wideHead(last, 286, 30) + each(wide, full(286)) + each(wide, full(30)[:29]),
	}
	for _, row := range rows {
		for symbol, more := range map[int]int{16: 2, 17: 3, 18: 7} {
			text := row + plainTexts(wide)[symbol]
			for n := range more {
				wantEndFault(t, text+strings.Repeat("0", n), plenty, api.ErrEnd)
				wantEndFault(t, text+strings.Repeat("1", n), plenty, api.ErrEnd)
			}
		}
	}
}

// P4.1: a row that would be too long, by one and by many; one that is too short
// wants more.
func TestRowsThatAreTooLong(t *testing.T) {
	for _, c := range []struct{ literals, distances int }{{257, 1}, {257, 30}, {286, 1}, {286, 30}, {270, 7}} {
		all := append(full(c.literals), alike(0, c.distances)...)
		for left := 1; left <= 140; left++ {
			text := wideHead(last, c.literals, c.distances) + each(wide, all[:len(all)-left])
			for symbol, most := range map[int]int{16: 6, 17: 10, 18: 138} {
				for _, n := range []int{left + 1, left + 2, most} {
					if n > left && n <= most && n >= map[int]int{16: 3, 17: 3, 18: 11}[symbol] {
						wantEndFault(t, text+times(symbol, n), plenty, api.ErrTable)
					}
				}
				if left <= most && left-1 >= map[int]int{16: 3, 17: 3, 18: 11}[symbol] {
					wantEndFault(t, text+times(symbol, left-1), plenty, api.ErrEnd)
				}
			}
		}
	}
}

// P4.1: the literal 256 has a code, whatever else there is.
func TestNoEndOfABlock(t *testing.T) {
	for _, literals := range [][]int{
		append(full(256), 0),
		append(append(full(256), 0), full(29)...),
		slices.Insert(full(285), 256, 0),
		alike(0, 257),
		with(alike(0, 257), 255, 1),
		with(alike(0, 258), 257, 1),
	} {
		for _, distances := range [][]int{{0}, {1}, full(30), alike(0, 30)} {
			text := told(last, pair{literals, distances})
			wantTextFault(t, text, plenty, api.ErrTable)
			wantEndFault(t, text, plenty, api.ErrTable)
			wantEndFault(t, text[:len(text)-1], plenty, api.ErrEnd)
		}
	}
}

// P4.1: the literals' code is full, or it has one symbol, 256, of length 1.
func TestLiteralsCodesThatMayNotBe(t *testing.T) {
	end := with(alike(0, 257), 256, 1)
	codes := [][]int{
		with(full(257), 0, 7),
		with(full(257), 0, 9),
		with(full(257), 256, 8),
		with(full(257), 256, 10),
		with(full(257), 3, 0),
		with(full(286), 285, 15),
		alike(15, 286),
		alike(1, 257),
		with(end, 0, 2),
		with(with(end, 0, 1), 1, 1),
		with(with(end, 0, 1), 1, 15),
		with(with(alike(0, 286), 256, 2), 285, 2),
	}
	for n := 2; n <= 15; n++ {
		codes = append(codes, with(end, 256, n), with(alike(0, 286), 256, n))
	}
	for _, literals := range codes {
		for _, distances := range [][]int{{0}, {1}, full(30)} {
			text := told(last, pair{literals, distances})
			wantTextFault(t, text, plenty, api.ErrTable)
			wantEndFault(t, text, plenty, api.ErrTable)
			wantEndFault(t, text[:len(text)-1], plenty, api.ErrEnd)
		}
	}
}

// P4.1: a literals' code of one symbol.
func TestLiteralsCodeOfOneSymbol(t *testing.T) {
	for n := 257; n <= 286; n++ {
		for _, distances := range [][]int{{0}, {1}, full(30)} {
			text := told(last, pair{with(alike(0, n), 256, 1), distances})
			wantText(t, text+"0", nil)
			wantTextFault(t, text+"1", plenty, api.ErrCode)
			wantTextFault(t, text+"1", 0, api.ErrCode)
			wantEndFault(t, text, plenty, api.ErrEnd)
		}
	}
	// Two of one bit each are full.
	p := pair{with(with(alike(0, 257), 256, 1), 65, 1), []int{0}}
	wantText(t, told(last, p)+"0001", []byte("AAA"))
}

// P4.1: the distances' code is full, or it has one symbol, of length 1, or none.
func TestDistancesCodesThatMayNotBe(t *testing.T) {
	codes := [][]int{
		{1, 1, 1},
		{1, 2},
		{2, 2, 2},
		{0, 2, 0, 2},
		{2, 1, 3, 4},
		{1, 0, 0, 15},
		alike(5, 30),
		alike(4, 30),
		alike(15, 30),
		with(full(30), 0, 3),
		with(full(30), 0, 5),
		with(full(30), 29, 0),
	}
	for n := 2; n <= 15; n++ {
		codes = append(codes, []int{n}, []int{0, n}, with(alike(0, 30), 29, n))
	}
	for _, distances := range codes {
		for _, literals := range [][]int{full(257), full(286), with(alike(0, 257), 256, 1)} {
			text := told(last, pair{literals, distances})
			wantTextFault(t, text, plenty, api.ErrTable)
			wantEndFault(t, text, plenty, api.ErrTable)
			wantEndFault(t, text[:len(text)-1], plenty, api.ErrEnd)
		}
	}
}

// P4.1: without a distance's code literals may stand, and a length is one too
// many: told ahead of the next bit, but behind the length's own.
func TestNoDistancesCode(t *testing.T) {
	for n := 1; n <= 30; n++ {
		p := pair{full(286), alike(0, n)}
		text := told(last, p)
		wantText(t, text+p.bytes([]byte("ab"))+p.end(), []byte("ab"))
		text += p.bytes([]byte("ab"))
		for _, length := range []string{p.literal(257), p.literal(284) + "01101", p.literal(285)} {
			wantEndFault(t, text+length, plenty, api.ErrCode)
			wantEndFault(t, text+length, 2, api.ErrCode)
			wantTextFault(t, text+length+"00000", plenty, api.ErrCode)
		}
		wantEndFault(t, text+p.literal(284)+"0110", plenty, api.ErrEnd)
	}
}

// P4.1: a distances' code of one symbol.
func TestDistancesCodeOfOneSymbol(t *testing.T) {
	written := probe.Noise(2, 32768)
	for symbol, s := range plainDistances() {
		for _, n := range []int{symbol + 1, 30} {
			p := pair{full(286), with(alike(0, n), symbol, 1)}
			text := told(last, p) + p.literal(258)
			wantMatch(t, written, pack(text+"0"+low(0, s.more)+p.end(), "0"), s.least)
			wantEndFault(t, text+"1", plenty, api.ErrCode)
			wantEndFault(t, text, plenty, api.ErrEnd)
			wantEndFault(t, text+"0"+low(0, s.more), plenty, api.ErrFar)
			wantTextFault(t, text+"1"+low(0, s.more)+p.end(), plenty, api.ErrCode)
		}
	}
}

// P4.1: two blocks of one stream have each their own codes, and fixed ones stay
// what they are.
func TestCodesOfOneBlock(t *testing.T) {
	p, q := flat(286, 30), pair{deep(286, 6), deep(30, 10)}
	b := probe.Noise(8, 30)
	text := told(further, p) + p.bytes(b) + p.end() + head(further, 1) + fixed().bytes(b) + fixed().end()
	text += told(further, q) + q.bytes(b) + q.match(30, 90) + q.end()
	text += head(further, 1) + fixed().match(30, 1) + fixed().bytes(b) + fixed().end()
	text += told(last, p) + p.match(30, 180) + p.end()
	out := slices.Concat(b, b, b, b)
	out = append(out, again(out, 30, 1)...)
	out = append(out, b...)
	wantText(t, text, append(out, again(out, 30, 180)...))
}
