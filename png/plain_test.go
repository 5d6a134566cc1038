package png_test

import (
	"fmt"
	"slices"
	"testing"

	"darkroom/api"
	"darkroom/chunk"
	"darkroom/inflate"
	"darkroom/png"
	"darkroom/probe"
)

// A plain reader goes through the chapter sentence by sentence.
type plain struct {
	file
	ahead []string // the types of the chunks so far
	data  []byte
}

func plainDecode(b []byte, most int) (api.Image, api.Errno) {
	return probe.Read(func() api.Image {
		probe.Must(len(b) <= 4194304, api.ErrLimit)
		cs, e := chunk.Split(b)
		probe.Must(e == api.OK, e)
		p := &plain{}
		probe.Must(cs[0].Type == "IHDR", api.ErrMalformed)
		for _, c := range cs {
			p.chunk(c)
			p.ahead = append(p.ahead, c.Type)
		}
		probe.Must(p.had("IDAT"), api.ErrMalformed)
		probe.Must(p.colour != 3 || p.had("PLTE"), api.ErrMalformed)
		probe.Must(p.width <= 4096 && p.height <= 4096, api.ErrLimit)
		probe.Must(p.width*p.height <= 65536 && p.width*p.height <= most, api.ErrLimit)
		p.unpack()
		return p.image()
	})
}

func (p *plain) had(typ string) bool { return slices.Contains(p.ahead, typ) }

func (p *plain) chunk(c api.Chunk) {
	switch c.Type {
	case "IHDR":
		probe.Must(len(p.ahead) == 0, api.ErrMalformed)
		p.readHead(c.Data)
	case "PLTE":
		probe.Must(!p.had("PLTE") && !p.had("tRNS") && !p.had("IDAT"), api.ErrMalformed)
		probe.Must(p.colour != 0 && p.colour != 4, api.ErrMalformed)
		probe.Must(len(c.Data)%3 == 0 && len(c.Data) >= 3 && len(c.Data) <= 768, api.ErrMalformed)
		probe.Must(p.colour != 3 || len(c.Data) <= 3<<p.depth, api.ErrMalformed)
		p.palette = c.Data
	case "tRNS":
		probe.Must(!p.had("tRNS") && !p.had("IDAT"), api.ErrMalformed)
		switch p.colour {
		case 0:
			probe.Must(len(c.Data) == 2, api.ErrMalformed)
		case 2:
			probe.Must(len(c.Data) == 6, api.ErrMalformed)
		case 3:
			probe.Must(p.had("PLTE") && 3*len(c.Data) <= len(p.palette), api.ErrMalformed)
		default:
			panic(api.ErrMalformed)
		}
		p.clear = c.Data
	case "IDAT":
		probe.Must(!p.had("IDAT") || p.ahead[len(p.ahead)-1] == "IDAT", api.ErrMalformed)
		p.data = slices.Concat(p.data, c.Data)
	case "IEND":
		probe.Must(len(c.Data) == 0, api.ErrMalformed)
	default:
		probe.Must(c.Type[0] >= 'a', api.ErrUnsupported)
	}
}

func (p *plain) readHead(b []byte) {
	probe.Must(len(b) == 13, api.ErrMalformed)
	number := func(at int) int {
		v := 0
		for _, x := range b[at : at+4] {
			v = 256*v + int(x)
		}
		probe.Must(v >= 1 && v <= 2147483647, api.ErrMalformed)
		return v
	}
	p.width, p.height, p.depth, p.colour, p.order = number(0), number(4), int(b[8]), int(b[9]), int(b[12])
	probe.Must(slices.Contains(colours(), p.colour), api.ErrMalformed)
	probe.Must(slices.Contains(depths(p.colour), p.depth), api.ErrMalformed)
	probe.Must(b[10] == 0 && b[11] == 0 && b[12] < 2, api.ErrMalformed)
}

// unpack reads the samples of all pixels, bit by bit.
func (p *plain) unpack() {
	rest, e := inflate.Zlib(p.data, 1<<24)
	probe.Must(e == api.OK, api.ErrMalformed)
	n := planes(p.colour)
	p.samples = make([]int, p.width*p.height*n)
	for _, part := range parts(p.width, p.height, p.order) {
		if part == nil {
			continue
		}
		width := (len(part[0])*n*p.depth + 7) / 8
		probe.Must(len(rest) >= len(part)*(1+width), api.ErrMalformed)
		rows, e := chunk.Unfilter(rest[:len(part)*(1+width)], width, max(1, n*p.depth/8))
		probe.Must(e == api.OK, api.ErrMalformed)
		rest = rest[len(part)*(1+width):]
		for y, row := range part {
			for x, place := range row {
				for i := range n {
					v := 0
					for k := range p.depth {
						bit := (x*n+i)*p.depth + k
						v = 2*v + int(rows[y*width+bit/8])>>(7-bit%8)&1
					}
					probe.Must(p.colour != 3 || v < len(p.palette)/3, api.ErrMalformed)
					p.samples[n*(place.Y*p.width+place.X)+i] = v
				}
			}
		}
	}
	probe.Must(len(rest) == 0, api.ErrMalformed)
}

// wantAsTold wants of a file what the plain reader makes of it.
func wantAsTold(t *testing.T, b []byte, most int) api.Errno {
	want, wantE := plainDecode(b, most)
	m, e := png.Decode(b, most)
	if s := probe.Other(m, e, want, wantE); s != "" {
		t.Helper()
		t.Fatalf("Decode(%s, %d) = %s", told(b), most, s)
	}
	return e
}

// smallFiles are good ones of all colours and depths, with few pixels.
func smallFiles() []file {
	var all []file
	for i, s := range []probe.Size{{1, 1}, {3, 2}, {2, 3}, {9, 1}, {5, 6}} {
		for _, colour := range colours() {
			for _, depth := range depths(colour) {
				for order := range 2 {
					f := noisy(uint32(100*i+depth), s.W, s.H, depth, colour)
					f.order, f.kinds, f.fill = order, []int{i % 5, (i + order + 1) % 5, 4}, byte(85*i)
					all = append(all, f)
					switch colour {
					case 0, 2:
						f.clear = packed(f.samples[len(f.samples)-planes(colour):], 16, 0)
					case 3:
						f.clear = probe.Noise(uint32(i), 1<<depth-i%2)
					case 6:
						f.palette = probe.Noise(uint32(i), 3*(i+1))
					case 4:
						continue
					}
					all = append(all, f)
				}
			}
		}
	}
	return all
}

// P13.1, P3: good files are read as what they are, by the plain reader too.
func TestDecodeSmallFiles(t *testing.T) {
	for _, f := range smallFiles() {
		if e := wantAsTold(t, f.bytes(), plenty); e != api.OK {
			t.Fatal("no good file:", told(f.bytes()), e)
		}
		wantImage(t, f.bytes(), plenty, f.image())
	}
}

// types are such as chunks are given when they are changed.
func types() []string {
	return []string{"IHDR", "PLTE", "tRNS", "IDAT", "IEND", "PLTE", "tRNS", "IDAT", "tEXt", "gAMA", "ABCD", "IDAt"}
}

// broken answers chunks with something in them changed, by dice.
func broken(cs []api.Chunk, dice []byte) []api.Chunk {
	cs = slices.Clone(cs)
	i, k := int(dice[0])%len(cs), int(dice[1])%len(cs)
	typ := types()[int(dice[2])%len(types())]
	data := slices.Clone(cs[i].Data)
	half := len(data) / 2
	switch dice[3] % 10 {
	case 0:
		return slices.Delete(cs, i, i+1)
	case 1:
		cs[i], cs[k] = cs[k], cs[i]
		return cs
	case 2:
		return slices.Insert(cs, i, cs[k])
	case 3:
		return slices.Insert(cs, i, api.Chunk{Type: typ, Data: dice[4 : 4+dice[5]%7]})
	case 4:
		return slices.Insert(cs, i, api.Chunk{Type: typ, Data: cs[k].Data})
	case 5:
		cs[i].Type = typ
	case 6:
		cs[i].Data = data[:max(len(data)-1-int(dice[4])%3, 0)]
	case 7:
		cs[i].Data = append(data, dice[5:6+dice[4]%4]...)
	case 8:
		return slices.Replace(cs, i, i+1, api.Chunk{Type: cs[i].Type, Data: data[:half]}, api.Chunk{Type: cs[i].Type, Data: data[half:]})
	case 9:
		if len(data) > 0 {
			data[int(dice[4])%len(data)] = []byte{0, 1, 2, 3, 4, 5, 6, 8, 16, 255}[int(dice[5])%10]
			cs[i].Data = data
		}
	}
	return cs
}

// P13.1: files with one, two or three of their chunks changed, against the plain
// reader.
func TestDecodeBroken(t *testing.T) {
	t.Parallel()
	met := map[api.Errno]int{}
	for i, f := range smallFiles() {
		good := f.chunks()
		for k := range 1200 {
			cs := good
			dice := probe.Noise(uint32(2000*i+k), 30)
			for times := range 1 + k%3 {
				if len(cs) > 0 {
					cs = broken(cs, dice[10*times:])
				}
			}
			met[wantAsTold(t, bytesOf(cs...), []int{plenty, 2, 1, 30}[k%4])]++
		}
	}
	if len(met) != 4 || met[api.OK] < 5000 || met[api.ErrMalformed] < 5000 || met[api.ErrLimit] < 5000 || met[api.ErrUnsupported] < 3000 {
		t.Error("of some answers there are but few:", fmt.Sprint(met))
	}
}

// P13.1: chunks in any order, of a few kinds, against the plain reader.
func TestDecodeOfAnyOrder(t *testing.T) {
	t.Parallel()
	met := map[api.Errno]int{}
	for _, colour := range colours() {
		f := noisy(1, 2, 1, 8, colour)
		f.samples[0] = 0
		f.samples[1%len(f.samples)] = 1
		z := zipped(f.rows())
		for seed := range uint32(12000) {
			cs := []api.Chunk{f.head()}
			for _, x := range probe.Noise(seed, 7) {
				c := []api.Chunk{
					{Type: "PLTE", Data: probe.Noise(seed, 6)}, {Type: "PLTE", Data: probe.Noise(seed, 768)}, {Type: "tRNS", Data: []byte{0, 1}},
					{Type: "tRNS", Data: []byte{0, 1, 0, 1, 0, 2}}, {Type: "tRNS"}, {Type: "IDAT", Data: z[:5]}, {Type: "IDAT", Data: z[5:]}, {Type: "IDAT", Data: z},
					{Type: "IDAT"}, {Type: "IDAT", Data: z}, {Type: "pHYs"}, {Type: "TEST"}, {Type: "IEND"}, {Type: "IEND"},
				}[int(x)%14]
				cs = append(cs, c)
			}
			met[wantAsTold(t, bytesOf(append(cs, end())...), int(seed%5))]++
		}
	}
	if len(met) != 4 || met[api.OK] < 500 || met[api.ErrMalformed] < 1000 || met[api.ErrLimit] < 500 || met[api.ErrUnsupported] < 1000 {
		t.Error("of some answers there are but few:", fmt.Sprint(met))
	}
}

// P13.1: rows with a few of their bytes changed, and rows too many or too few.
func TestDecodeOfBrokenRows(t *testing.T) {
	t.Parallel()
	met := map[api.Errno]int{}
	for i, f := range smallFiles() {
		cs := f.chunks()
		rows := f.rows()
		at := len(cs) - 2
		if f.colour == 3 {
			cs[1].Data = cs[1].Data[:3*max(1<<f.depth-i%3, 1)]
			if f.clear != nil {
				cs[2].Data = nil
			}
		}
		for seed := range uint32(300) {
			cs[at] = pixels(probe.Changed(rows, []byte{0, 1, 2, 3, 4, 5, 6, 255}, seed))
			met[wantAsTold(t, bytesOf(cs...), plenty)]++
		}
	}
	if len(met) != 2 || met[api.OK] < 5000 || met[api.ErrMalformed] < 5000 {
		t.Error("of some answers there are but few:", fmt.Sprint(met))
	}
}
