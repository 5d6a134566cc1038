package probe_test

import (
	"bytes"
	"slices"
	"sync/atomic"
	"testing"

	"darkroom/api"
	"darkroom/probe"
)

// good is a call that keeps the rules.
func good(b []byte) ([]byte, api.Errno) {
	if len(b) == 0 {
		return nil, api.ErrEnd
	}
	return append(slices.Clone(b), b[0]), api.OK
}

func TestKept(t *testing.T) {
	for _, b := range [][]byte{nil, {1}, {1, 2, 3}} {
		if s := probe.Kept(b, good); s != "" {
			t.Error(b, s)
		}
	}
	var shared, first, kept []byte
	for name, bad := range map[string]func(b []byte) ([]byte, api.Errno){
		"changes":        func(b []byte) ([]byte, api.Errno) { b[0]++; return good(b) },
		"changes behind": func(b []byte) ([]byte, api.Errno) { _ = append(b, 1); return good(b) },
		"reads behind":   func(b []byte) ([]byte, api.Errno) { return bytes.Clone(b[:min(len(b)+1, cap(b))]), api.OK },
		"answers it":     func(b []byte) ([]byte, api.Errno) { return b, api.OK },
		"answers spare":  func(b []byte) ([]byte, api.Errno) { return slices.Grow(b, 8)[len(b):][:0], api.OK },
		"one answer": func(b []byte) ([]byte, api.Errno) {
			shared = append(shared[:0], b...)
			return shared, api.OK
		},
		"keeps its answer": func(b []byte) ([]byte, api.Errno) {
			if first == nil {
				first = slices.Clone(b)
				return first, api.OK
			}
			return slices.Clone(first), api.OK
		},
		"keeps it": func(b []byte) ([]byte, api.Errno) {
			if len(kept) == 0 || cap(b) > len(b)+5 {
				kept = b
			}
			return slices.Clone(kept), api.OK
		},
	} {
		if probe.Kept([]byte{1, 2, 3}, bad) == "" {
			t.Error("not found out: a call that", name)
		}
	}
}

func TestApart(t *testing.T) {
	encode := func(m api.Image) ([]byte, api.Errno) { return probe.Narrow(m.Pix), api.OK }
	decode := func(b []byte) (api.Image, api.Errno) { return api.Image{W: 4, H: 3, Pix: probe.Wide(b)}, api.OK }
	if s := probe.Apart(encode, decode); s != "" {
		t.Error(s)
	}
	var file []byte
	if probe.Apart(func(m api.Image) ([]byte, api.Errno) {
		if file == nil {
			file, _ = encode(m)
		}
		return file, api.OK
	}, decode) == "" {
		t.Error("not found out: files share memory")
	}
	var read api.Image
	if probe.Apart(encode, func(b []byte) (api.Image, api.Errno) {
		if read.Pix == nil {
			read, _ = decode(b)
		}
		return read, api.OK
	}) == "" {
		t.Error("not found out: images share memory")
	}
	var first []byte
	if probe.Apart(func(m api.Image) ([]byte, api.Errno) {
		if first == nil {
			first, _ = encode(m)
			return first, api.OK
		}
		return bytes.Clone(first), api.OK
	}, decode) == "" {
		t.Error("not found out: what was answered is kept")
	}
}

func TestRead(t *testing.T) {
	for _, e := range []api.Errno{api.OK, api.ErrLimit, api.ErrMalformed} {
		m, got := probe.Read(func() api.Image {
			probe.Must(e == api.OK, e)
			return api.Image{W: 5}
		})
		if got != e || (m.W == 5) != (e == api.OK) {
			t.Error(e, m, got)
		}
	}
}

func TestSteady(t *testing.T) {
	lists := [][]byte{nil, {1}, {2}, {3, 4}, {5}}
	if s := probe.Steady(len(lists), func(i int) ([]byte, api.Errno) { return good(lists[i]) }); s != "" {
		t.Error(s)
	}
	if s := probe.Steady(0, nil); s != "" {
		t.Error(s)
	}
	var calls atomic.Int64
	for name, bad := range map[string]func(i int) ([]byte, api.Errno){
		"answers by turns": func(int) ([]byte, api.Errno) { return []byte{byte(calls.Add(1))}, api.OK },
		"fails by turns":   func(int) ([]byte, api.Errno) { return nil, api.Errno(calls.Add(1)) },
	} {
		if probe.Steady(5, bad) == "" {
			t.Error("not found out: a call that", name)
		}
	}
}
