package bits

// mark is the byte that begins a sign within the bits of a JPEG file: where it
// is no sign, a byte 0 stands behind it.
const mark = 255

// Stuff answers b with a byte 0 behind each byte 255.
func Stuff(b []byte) []byte {
	var c []byte
	for _, x := range b {
		c = append(c, x)
		if x == mark {
			c = append(c, 0)
		}
	}
	return c
}

// Unstuff takes the bytes 0 behind bytes 255 out again, up to the end of b or a
// byte 255 behind which there is none, and answers the place where it ended.
func Unstuff(b []byte) ([]byte, int) {
	var c []byte
	at := 0
	for at < len(b) {
		size := 1
		if b[at] == mark {
			if at+1 == len(b) || b[at+1] != 0 {
				break
			}
			size = 2
		}
		c = append(c, b[at])
		at += size
	}
	return c, at
}
