package lzw

import (
	"darkroom/api"
	"darkroom/bits"
)

// An unpacker writes the strings whose codes it reads.
type unpacker struct {
	form
	out   []byte
	most  int
	table []text // of the codes from the form's first one on
	ahead text   // the string of the code ahead, without bytes if there is none
}

// A text is a string that was met, told by where it stands in what was written.
type text struct {
	from, length int
}

func unpack(b []byte, f form, most int) ([]byte, api.Errno) {
	u := &unpacker{form: f, most: most}
	in := bits.NewReader(b, f.high)
	for {
		code, e := in.Take(f.width(u.codes()))
		if e != api.OK {
			return nil, e
		}
		switch int(code) {
		case f.clear():
			u.table, u.ahead = nil, text{}
		case f.end():
			return u.out, api.OK
		default:
			if e := u.write(int(code)); e != api.OK {
				return nil, e
			}
		}
	}
}

// codes answers how many the table has, the single bytes and signs among them.
func (u *unpacker) codes() int { return u.first() + len(u.table) }

// write writes the string of a code that is no sign.
func (u *unpacker) write(code int) api.Errno {
	u.grow()
	if code >= u.codes() {
		return api.ErrCode
	}
	met := text{length: 1}
	if code >= u.first() {
		met = u.table[code-u.first()]
	}
	from := len(u.out)
	if from+met.length > u.most {
		return api.ErrLong
	}
	if code < u.clear() {
		u.out = append(u.out, byte(code))
	} else {
		u.again(met)
	}
	u.ahead = text{from, met.length}
	return api.OK
}

// grow gives the table the string of the code ahead and the byte behind it. That
// byte is the first one of what is still to be written: the string stands in
// the table ahead of its last byte, so that the code read now may be its own.
func (u *unpacker) grow() {
	if u.ahead.length > 0 && u.codes() < maxCodes {
		u.table = append(u.table, text{u.ahead.from, u.ahead.length + 1})
	}
}

// again goes byte by byte, as the last one may be the first one that it writes.
func (u *unpacker) again(t text) {
	for i := range t.length {
		u.out = append(u.out, u.out[t.from+i])
	}
}
