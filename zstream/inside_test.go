package zstream

import (
	"strings"
	"testing"
	"unsafe"

	"mirador/api"
	"mirador/lz"
)

// within is whether a text's bytes are a part of another one's.
func within(part, s string) bool {
	if part == "" {
		return false
	}
	from, at := uintptr(unsafe.Pointer(unsafe.StringData(s))), uintptr(unsafe.Pointer(unsafe.StringData(part)))
	return at >= from && at < from+uintptr(len(s))
}

func TestNoMoreThanAWindowIsKept(t *testing.T) {
	var p Packer
	var u Unpacker
	made := ""
	for _, n := range []int{0, 1, 9, 1000, 32767, 1, 32768, 5, 32769, 100000, 0, 70} {
		s := strings.Repeat("in the rain", n/11+1)[:n]
		z := p.Segment(s)
		x, e := u.Segment(z, n)
		if x != s || e != api.OK {
			t.Fatal(n, len(x), e)
		}
		made += s
		for i, window := range []string{p.window, u.window} {
			if window != lz.Tail(made) {
				t.Errorf("side %d behind %d bytes: another window, of %d", i, len(made), len(window))
			}
			// A part of what was handed in, or out, would keep all of it.
			if within(window, s) || within(window, x) || within(window, z) {
				t.Errorf("side %d behind %d bytes: the window is a part of the text", i, len(made))
			}
		}
	}
}

func TestABrokenStreamKeepsItsErrorAlone(t *testing.T) {
	var p Packer
	var u Unpacker
	u.Segment(p.Segment("in the rain"), 99)
	if _, e := u.Segment("", 99); e != api.ErrFinal || u != (Unpacker{err: api.ErrFinal}) {
		t.Error(e, u)
	}
}
