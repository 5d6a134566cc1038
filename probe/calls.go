package probe

import (
	"bytes"
	"slices"
	"strconv"
	"sync"

	"darkroom/api"
)

// Kept answers how a call breaks the rule of what is handed in and answered, ""
// if it doesn't: list is read alone, stays and isn't kept, spare room included,
// and what is answered is new memory.
func Kept[T Number](list []T, call func(list []T) ([]T, api.Errno)) string {
	want, wantE := call(slices.Clone(list))
	wanted := slices.Clone(want)
	given, all := Roomy(list)
	before := slices.Clone(all)
	first, e := call(given)
	second, _ := call(given)
	if e != wantE || !slices.Equal(first, wanted) {
		return "what wasn't handed in is read"
	}
	Spoil(first)
	if !slices.Equal(all, before) {
		return "what was handed in is changed, or answered"
	}
	if !slices.Equal(second, wanted) || !slices.Equal(want, wanted) {
		return "answers share memory"
	}
	Spoil(all)
	if !slices.Equal(second, wanted) {
		return "what was handed in is answered"
	}
	Spoil(want)
	Spoil(second)
	if third, e := call(slices.Clone(list)); e != wantE || !slices.Equal(third, wanted) {
		return "what was handed in, or answered, is kept"
	}
	return ""
}

// Steady answers which of n calls hangs on those ahead of it or beside it, "" if
// none does.
func Steady(n int, call func(i int) ([]byte, api.Errno)) string {
	type answer struct {
		b []byte
		e api.Errno
	}
	all := make([]answer, n)
	for i := range all {
		all[i].b, all[i].e = call(i)
	}
	const beside = 8
	var faults [beside]string
	var ws sync.WaitGroup
	for g := range beside {
		ws.Go(func() {
			for j := range all {
				i := (g + (2*g+1)*(n-1-j)) % n
				if b, e := call(i); e != all[i].e || !bytes.Equal(b, all[i].b) {
					faults[g] = "call " + strconv.Itoa(i) + ": " + Short(all[i].b) + ", then " + Short(b)
				}
			}
		})
	}
	ws.Wait()
	return slices.Max(faults[:])
}

// Apart answers how a format's answers share memory with one another or with what
// was handed in, "" if they don't: encode writes such files as decode reads.
func Apart(encode func(m api.Image) ([]byte, api.Errno), decode func(b []byte) (api.Image, api.Errno)) string {
	m, before := Image(2, 4, 3), Image(2, 4, 3)
	first, _ := encode(m)
	second, _ := encode(m)
	file := bytes.Clone(second)
	one, _ := decode(first)
	two, _ := decode(first)
	pix := slices.Clone(two.Pix)
	Spoil(first)
	Spoil(one.Pix)
	if !bytes.Equal(second, file) || !slices.Equal(two.Pix, pix) {
		return "answers share memory"
	}
	if !slices.Equal(m.Pix, before.Pix) {
		return "what was handed in is answered"
	}
	if again, e := encode(before); e != api.OK || !bytes.Equal(again, file) {
		return "what was answered is kept"
	}
	if again, e := decode(file); e != api.OK || !slices.Equal(again.Pix, pix) {
		return "what was answered is kept"
	}
	return ""
}

// Must ends what Read calls with an error, if something isn't so.
func Must(ok bool, e api.Errno) {
	if !ok {
		panic(e)
	}
}

// Read answers what a reader that goes by Must does.
func Read(read func() api.Image) (m api.Image, e api.Errno) {
	defer func() {
		if fault := recover(); fault != nil {
			m, e = api.Image{}, fault.(api.Errno)
		}
	}()
	return read(), api.OK
}
