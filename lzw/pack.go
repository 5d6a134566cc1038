package lzw

import (
	"darkroom/bits"
)

// A packer writes codes, each of the longest string that the reader knows.
type packer struct {
	form
	out     *bits.Writer
	strings map[longer]int
	codes   int  // of the reader's table, once it has read what was written
	ahead   bool // whether the reader has a code ahead then
}

// A longer string is one that has a code, and a byte behind it.
type longer struct {
	code int
	next byte
}

func pack(b []byte, f form) []byte {
	p := &packer{form: f, out: bits.NewWriter(f.high), strings: map[longer]int{}, codes: f.first()}
	p.forget()
	for len(b) > 0 {
		code, n := p.longest(b)
		p.put(code)
		b = b[n:]
		if len(b) > 0 {
			p.note(longer{code, b[0]})
		}
	}
	p.put(f.end())
	return p.out.Bytes()
}

// longest answers the code of the longest string that b begins with, and how
// long it is.
func (p *packer) longest(b []byte) (code, length int) {
	code = int(b[0])
	for i, x := range b[1:] {
		next, met := p.strings[longer{code, x}]
		if !met {
			return code, i + 1
		}
		code = next
	}
	return code, len(b)
}

func (p *packer) put(code int) {
	p.out.Put(uint32(code), p.width(p.codes))
	if p.ahead {
		p.codes++
	}
	p.ahead = true
}

// enough is how many codes a table gets. Other programs that read TIFF want it
// to be cleared then, a little ahead of its greatest size.
const enough = 4094

// note gives a string the code that the reader will give it, behind the next
// code that it reads.
func (p *packer) note(s longer) {
	if p.codes == enough {
		p.forget()
		return
	}
	p.strings[s] = p.codes
}

// forget begins a new table.
func (p *packer) forget() {
	p.put(p.clear())
	clear(p.strings)
	p.codes, p.ahead = p.first(), false
}
