package pnm

import (
	"bytes"
)

// mostDigits is how many digits a number has at most.
const mostDigits = 9

// A scan goes through bytes from the front on. What is asked for and isn't there
// in full may be taken in part: such a file is broken anyhow.
type scan struct {
	left []byte
}

// starts tells whether a byte from first to last comes next.
func (s *scan) starts(first, last byte) bool {
	return len(s.left) > 0 && s.left[0] >= first && s.left[0] <= last
}

// next takes the byte that comes next, which there is.
func (s *scan) next() byte {
	c := s.left[0]
	s.left = s.left[1:]
	return c
}

// space takes a space, and tells whether there was one.
func (s *scan) space() bool {
	if !s.starts('\t', '\r') && !s.starts(' ', ' ') {
		return false
	}
	s.next()
	return true
}

// gap takes spaces and remarks, and tells whether there was a gap.
func (s *scan) gap() bool {
	found := false
	for {
		if s.starts('#', '#') {
			end := bytes.IndexAny(s.left, "\n\r")
			if end < 0 {
				return false
			}
			s.left = s.left[end:]
		}
		if !s.space() {
			return found
		}
		found = true
	}
}

// digit takes a digit, and tells whether there was one.
func (s *scan) digit() (int, bool) {
	if !s.starts('0', '9') {
		return 0, false
	}
	return int(s.next() - '0'), true
}

// number takes a number, and tells whether there was one.
func (s *scan) number() (int, bool) {
	n := 0
	for length := 0; ; length++ {
		d, ok := s.digit()
		if !ok {
			return n, length > 0
		}
		if length == mostDigits {
			return 0, false
		}
		n = 10*n + d
	}
}
