package probe

// greatest is the greatest sample.
const greatest = 65535

// Up is the sample that stands for v of top.
func Up(v, top int) uint16 { return uint16((greatest*v + top/2) / top) }

// Down is the number from 0 to top that stands for a sample.
func Down(v uint16, top int) int { return (int(v)*top + greatest/2) / greatest }

// Wide answers bytes, as they are, as samples.
func Wide(b []byte) []uint16 {
	list := make([]uint16, len(b))
	for i, x := range b {
		list[i] = uint16(x)
	}
	return list
}

// Narrow answers samples as bytes, two each.
func Narrow(list []uint16) []byte {
	var b []byte
	for _, s := range list {
		b = append(b, byte(s>>8), byte(s))
	}
	return b
}
