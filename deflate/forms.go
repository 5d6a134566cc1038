package deflate

import (
	"cmp"
	"slices"

	"darkroom/bits"
	"darkroom/blocks"
)

// A packer writes a text, a part a block.
type packer struct {
	text   []byte
	level  int
	out    *bits.Writer
	tokens func(from, to int) []token
}

// A form is one of the ways to write a block: how many bits stand behind its
// head, and what writes them.
type form struct {
	kind  uint32
	size  int
	write func(w *bits.Writer)
}

// headBits is what each block begins with: whether it is the last one, and its
// kind.
const headBits = 3

// block writes the part from from to to in the shortest form.
func (p *packer) block(from, to int, last bool) {
	f := slices.MinFunc(p.forms(from, to), func(a, b form) int { return cmp.Compare(a.size, b.size) })
	head := f.kind << 1
	if last {
		head |= 1
	}
	p.out.Put(head, headBits)
	f.write(p.out)
}

// forms answers those that the level allows.
func (p *packer) forms(from, to int) []form {
	forms := []form{storedForm(p.text[from:to], p.out.Len()+headBits)}
	if p.level < blocks.Fixed {
		return forms
	}
	tokens := p.tokens(from, to)
	t := tallyOf(tokens)
	forms = append(forms, fixedForm(tokens, t))
	if p.level < blocks.Told {
		return forms
	}
	return append(forms, toldForm(tokens, t))
}

// storedForm hangs on the bit at which it begins: bits up to a byte's border
// are left out.
func storedForm(b []byte, at int) form {
	return form{blocks.Stored, (8-at%8)%8 + 2*16 + 8*len(b), func(w *bits.Writer) {
		w.Align()
		w.Put(uint32(len(b)), 16)
		w.Put(uint32(blocks.MaxStored-len(b)), 16)
		for _, x := range b {
			w.Put(uint32(x), 8)
		}
	}}
}

func fixedForm(tokens []token, t tally) form {
	c := fixedCodes()
	return form{blocks.Fixed, c.size(t), func(w *bits.Writer) {
		c.write(w, tokens)
	}}
}

func toldForm(tokens []token, t tally) form {
	c := bestCodes(t)
	head := tableOf(c)
	return form{blocks.Told, head.size() + c.size(t), func(w *bits.Writer) {
		head.write(w)
		c.write(w, tokens)
	}}
}
