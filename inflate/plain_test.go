package inflate_test

import (
	"fmt"

	"darkroom/api"
)

// What stands here reads a stream bit by bit out of text, as the chapter tells
// it, to hold Raw against.

// A step is the numbers that a symbol of a length or a distance stands for.
type step struct {
	least, more int
}

func plainLengths() []step {
	var steps []step
	least := 3
	for symbol := 257; symbol <= 284; symbol++ {
		more := 0
		if symbol >= 265 {
			more = (symbol-265)/4 + 1
		}
		steps = append(steps, step{least, more})
		least += 1 << more
	}
	return append(steps, step{258, 0})
}

func plainDistances() []step {
	var steps []step
	least := 1
	for symbol := range 30 {
		more := 0
		if symbol >= 4 {
			more = (symbol-4)/2 + 1
		}
		steps = append(steps, step{least, more})
		least += 1 << more
	}
	return steps
}

// plainTexts answers each symbol's code as text, "" for a symbol without one.
func plainTexts(lengths []int) []string {
	texts := make([]string, len(lengths))
	number, ahead := 0, 0
	for n := 1; n <= 16; n++ {
		for symbol, l := range lengths {
			if l != n {
				continue
			}
			if ahead > 0 {
				number = (number + 1) << (n - ahead)
			}
			texts[symbol], ahead = fmt.Sprintf("%0*b", n, number), n
		}
	}
	return texts
}

// A plainCode knows the symbol of each code, and what codes begin with.
type plainCode struct {
	symbols map[string]int
	begins  map[string]bool
}

func plainCodeOf(lengths []int) plainCode {
	c := plainCode{map[string]int{}, map[string]bool{}}
	for symbol, text := range plainTexts(lengths) {
		if text == "" {
			continue
		}
		c.symbols[text] = symbol
		for n := range text {
			c.begins[text[:n]] = true
		}
	}
	return c
}

var (
	lengthSteps   = plainLengths()
	distanceSteps = plainDistances()
)

var plainFixed = [2]plainCode{plainCodeOf(fixed().literals), plainCodeOf(fixed().distances)}

type plain struct {
	text string
	at   int
	out  []byte
	most int
}

// plainRaw answers what is written, how many bytes are begun, and the error.
func plainRaw(b []byte, most int) ([]byte, int, api.Errno) {
	p := &plain{text: textOf(b), most: max(most, 0)}
	for {
		isLast, e := p.block()
		if e != api.OK {
			return nil, 0, e
		}
		if isLast {
			return p.out, (p.at + 7) / 8, api.OK
		}
	}
}

func (p *plain) bits(n int) (int, api.Errno) {
	if len(p.text)-p.at < n {
		return 0, api.ErrEnd
	}
	v := 0
	for i := range n {
		v += int(p.text[p.at+i]-'0') << i
	}
	p.at += n
	return v, api.OK
}

func (p *plain) symbol(c plainCode) (int, api.Errno) {
	for from := p.at; ; p.at++ {
		part := p.text[from:p.at]
		if symbol, ok := c.symbols[part]; ok {
			return symbol, api.OK
		}
		if !c.begins[part] {
			return 0, api.ErrCode
		}
		if p.at == len(p.text) {
			return 0, api.ErrEnd
		}
	}
}

func (p *plain) block() (bool, api.Errno) {
	isLast, e := p.bits(1)
	if e != api.OK {
		return false, e
	}
	kind, e := p.bits(2)
	if e != api.OK {
		return false, e
	}
	switch kind {
	case 0:
		e = p.kind0()
	case 1:
		e = p.packed(plainFixed[0], plainFixed[1])
	case 2:
		e = p.kind2()
	case 3:
		e = api.ErrBlock
	}
	return isLast == 1, e
}

func (p *plain) kind0() api.Errno {
	p.at = (p.at + 7) / 8 * 8
	n, e := p.bits(16)
	if e != api.OK {
		return e
	}
	other, e := p.bits(16)
	if e != api.OK {
		return e
	}
	if n+other != 65535 {
		return api.ErrBlock
	}
	if len(p.out)+n > p.most {
		return api.ErrLong
	}
	for range n {
		x, e := p.bits(8)
		if e != api.OK {
			return e
		}
		p.out = append(p.out, byte(x))
	}
	return api.OK
}

func (p *plain) packed(literals, distances plainCode) api.Errno {
	for {
		symbol, e := p.symbol(literals)
		if e != api.OK {
			return e
		}
		if symbol == 256 {
			return api.OK
		}
		if symbol > 285 {
			return api.ErrCode
		}
		if symbol < 256 {
			if len(p.out) == p.most {
				return api.ErrLong
			}
			p.out = append(p.out, byte(symbol))
			continue
		}
		if e := p.match(lengthSteps[symbol-257], distances); e != api.OK {
			return e
		}
	}
}

func (p *plain) match(s step, distances plainCode) api.Errno {
	more, e := p.bits(s.more)
	if e != api.OK {
		return e
	}
	length := s.least + more
	symbol, e := p.symbol(distances)
	if e != api.OK {
		return e
	}
	s = distanceSteps[symbol]
	if more, e = p.bits(s.more); e != api.OK {
		return e
	}
	from := len(p.out) - s.least - more
	if from < 0 {
		return api.ErrFar
	}
	if len(p.out)+length > p.most {
		return api.ErrLong
	}
	for i := range length {
		p.out = append(p.out, p.out[from+i])
	}
	return api.OK
}

func (p *plain) kind2() api.Errno {
	var told [3]int
	for i, n := range []int{5, 5, 4} {
		v, e := p.bits(n)
		if e != api.OK {
			return e
		}
		told[i] = v
	}
	if told[0] > 29 || told[1] > 29 {
		return api.ErrTable
	}
	code := make([]int, 19)
	for _, symbol := range order[:told[2]+4] {
		n, e := p.bits(3)
		if e != api.OK {
			return e
		}
		code[symbol] = n
	}
	if !plainMayBe(code) {
		return api.ErrTable
	}
	var row []int
	lengthsCode := plainCodeOf(code)
	for want := told[0] + 257 + told[1] + 1; len(row) < want; {
		some, e := p.lengths(lengthsCode, row)
		if e != api.OK {
			return e
		}
		if row = append(row, some...); len(row) > want {
			return api.ErrTable
		}
	}
	literals, distances := row[:told[0]+257], row[told[0]+257:]
	if literals[256] == 0 || !plainMayBe(literals) {
		return api.ErrTable
	}
	if !plainMayBe(distances) && count(distances) != 0 {
		return api.ErrTable
	}
	return p.packed(plainCodeOf(literals), plainCodeOf(distances))
}

// lengths reads what one symbol of the lengths' code stands for.
func (p *plain) lengths(code plainCode, row []int) ([]int, api.Errno) {
	symbol, e := p.symbol(code)
	if e != api.OK {
		return nil, e
	}
	switch symbol {
	case 16:
		if len(row) == 0 {
			return nil, api.ErrTable
		}
		n, e := p.bits(2)
		return alike(row[len(row)-1], 3+n), e
	case 17:
		n, e := p.bits(3)
		return alike(0, 3+n), e
	case 18:
		n, e := p.bits(7)
		return alike(0, 11+n), e
	}
	return []int{symbol}, api.OK
}

func count(lengths []int) int {
	n := 0
	for _, l := range lengths {
		n += min(l, 1)
	}
	return n
}

func plainMayBe(lengths []int) bool {
	room := 65536
	one := false
	for _, l := range lengths {
		if l > 0 {
			room -= 65536 >> l
		}
		one = one || l == 1
	}
	return room == 0 || one && count(lengths) == 1
}
