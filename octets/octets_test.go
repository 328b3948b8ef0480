package octets_test

import (
	"math"
	"strings"
	"testing"

	"mirador/api"
	"mirador/octets"
)

// Numbers at and around the edges of every size, and of Signed.
var edges = []int{
	math.MinInt, math.MinInt + 1, -1<<32 - 1, -1 << 32, -1<<31 - 1, -1 << 31, -1<<31 + 1,
	-65536, -32768, -260, -256, -129, -128, -2, -1, 0, 1, 2, 127, 128, 254, 255, 256, 257, 258,
	32767, 32768, 65534, 65535, 65536, 65537, 1<<24 - 1, 1 << 24, 66051, 0x01020304, 0x80000001,
	1<<31 - 2, 1<<31 - 1, 1 << 31, 1<<32 - 2, 1<<32 - 1, 1 << 32, 1<<32 + 1, math.MaxInt - 1, math.MaxInt,
}

var rightSizes = []int{1, 2, 4}

var wrongSizes = []int{math.MinInt, -8, -4, -2, -1, 0, 3, 5, 6, 7, 8, 9, 16, 32, 64, 256 + 1, 1<<32 + 4, math.MaxInt}

func TestPutAndLittleWriteTheBytes(t *testing.T) {
	for _, x := range []struct {
		size, n     int
		big, little string
	}{
		{1, 0, "\x00", "\x00"},
		{1, 1, "\x01", "\x01"},
		{1, 255, "\xff", "\xff"},
		{2, 0, "\x00\x00", "\x00\x00"},
		{2, 1, "\x00\x01", "\x01\x00"},
		{2, 256, "\x01\x00", "\x00\x01"},
		{2, 258, "\x01\x02", "\x02\x01"},
		{2, 65534, "\xff\xfe", "\xfe\xff"},
		{2, 65535, "\xff\xff", "\xff\xff"},
		{4, 0, "\x00\x00\x00\x00", "\x00\x00\x00\x00"},
		{4, 65536, "\x00\x01\x00\x00", "\x00\x00\x01\x00"},
		{4, 66051, "\x00\x01\x02\x03", "\x03\x02\x01\x00"},
		{4, 0x89abcdef, "\x89\xab\xcd\xef", "\xef\xcd\xab\x89"},
		{4, 1<<31 - 1, "\x7f\xff\xff\xff", "\xff\xff\xff\x7f"},
		{4, 1<<32 - 1, "\xff\xff\xff\xff", "\xff\xff\xff\xff"},
	} {
		if s, e := octets.Put(x.size, x.n); s != x.big || e != api.OK {
			t.Errorf("Put(%d, %d): % x, %v", x.size, x.n, s, e)
		}
		if s, e := octets.Little(x.size, x.n); s != x.little || e != api.OK {
			t.Errorf("Little(%d, %d): % x, %v", x.size, x.n, s, e)
		}
	}
}

func TestPutAndLittleRefuseWhatDoesNotFit(t *testing.T) {
	refused := func(size, n int) {
		t.Helper()
		if s, e := octets.Put(size, n); s != "" || e != api.ErrArg {
			t.Errorf("Put(%d, %d): % x, %v", size, n, s, e)
		}
		if s, e := octets.Little(size, n); s != "" || e != api.ErrArg {
			t.Errorf("Little(%d, %d): % x, %v", size, n, s, e)
		}
	}
	for _, size := range rightSizes {
		for _, n := range edges {
			if n < 0 || n >= 1<<(8*size) {
				refused(size, n)
			}
		}
	}
	for _, size := range wrongSizes {
		for _, n := range edges {
			refused(size, n)
		}
	}
}

func TestSignedWritesTheBytes(t *testing.T) {
	for _, x := range []struct {
		n int
		s string
	}{
		{0, "\x00\x00\x00\x00"},
		{1, "\x00\x00\x00\x01"},
		{16, "\x00\x00\x00\x10"},
		{-1, "\xff\xff\xff\xff"},
		{-223, "\xff\xff\xff\x21"},
		{-260, "\xff\xff\xfe\xfc"},
		{1<<31 - 2, "\x7f\xff\xff\xfe"},
		{1<<31 - 1, "\x7f\xff\xff\xff"},
		{1 << 31, ""},
		{1<<32 - 1, ""},
		{1 << 32, ""},
		{math.MaxInt, ""},
		{-1<<31 + 1, "\x80\x00\x00\x01"},
		{-1 << 31, "\x80\x00\x00\x00"},
		{-1<<31 - 1, ""},
		{-1 << 32, ""},
		{math.MinInt, ""},
	} {
		if s := octets.Signed(x.n); s != x.s {
			t.Errorf("Signed(%d): % x", x.n, s)
		}
	}
}

func TestCursorReadsNumbers(t *testing.T) {
	for _, x := range []struct {
		s                   string
		size                int
		big, little, signed int
	}{
		{s: "\x00", size: 1},
		{s: "\xff", size: 1, big: 255, little: 255},
		{s: "\x01\x02", size: 2, big: 258, little: 513},
		{s: "\xff\xff", size: 2, big: 65535, little: 65535},
		{"\x00\x01\x02\x03", 4, 66051, 0x03020100, 66051},
		{"\x7f\xff\xff\xff", 4, 1<<31 - 1, 0xffffff7f, 1<<31 - 1},
		{"\x80\x00\x00\x00", 4, 1 << 31, 128, -1 << 31},
		{"\x80\x00\x00\x01", 4, 1<<31 + 1, 0x01000080, -1<<31 + 1},
		{"\xff\xff\xff\xff", 4, 1<<32 - 1, 1<<32 - 1, -1},
		{"\xff\xff\xfe\xfc", 4, 1<<32 - 260, 0xfcfeffff, -260},
	} {
		c := octets.New(x.s)
		if n := c.Int(x.size); n != x.big {
			t.Errorf("Int(%d) of % x: %d", x.size, x.s, n)
		}
		checkState(t, c, x.size, 0, api.OK, api.OK)
		c = octets.New(x.s)
		if n := c.Little(x.size); n != x.little {
			t.Errorf("Little(%d) of % x: %d", x.size, x.s, n)
		}
		checkState(t, c, x.size, 0, api.OK, api.OK)
		if x.size == 4 {
			c = octets.New(x.s)
			if n := c.Signed(); n != x.signed {
				t.Errorf("Signed of % x: %d", x.s, n)
			}
			checkState(t, c, 4, 0, api.OK, api.OK)
		}
	}
}

func TestCursorReadsBytes(t *testing.T) {
	c := octets.New("ab\x00\xffcd")
	for _, x := range []struct {
		n    int
		want string
	}{{0, ""}, {1, "a"}, {0, ""}, {3, "b\x00\xff"}, {2, "cd"}, {0, ""}} {
		if s := c.Bytes(x.n); s != x.want {
			t.Errorf("Bytes(%d): %q", x.n, s)
		}
	}
	checkState(t, c, 6, 0, api.OK, api.OK)
	for _, n := range []int{3, 1 << 32, math.MaxInt - 1, math.MaxInt} {
		// Some bytes are passed ahead, so that a sum of both would wrap round.
		c = octets.New("abcd")
		c.Bytes(2)
		if s := c.Bytes(n); s != "" {
			t.Errorf("Bytes(%d): %q", n, s)
		}
		checkState(t, c, 2, 2, api.ErrMore, api.ErrMore)
	}
}

func TestCursorGoesOn(t *testing.T) {
	c := octets.New("\x01\x02\x03\x04\x05\x06\x07\xff\xff\xff\xfexyz!")
	checkState(t, c, 0, 15, api.OK, api.ErrBad)
	if n := c.Int(1); n != 1 {
		t.Error(n)
	}
	checkState(t, c, 1, 14, api.OK, api.ErrBad)
	if n := c.Little(2); n != 0x0302 {
		t.Error(n)
	}
	if n := c.Int(4); n != 0x04050607 {
		t.Error(n)
	}
	checkState(t, c, 7, 8, api.OK, api.ErrBad)
	if n := c.Signed(); n != -2 {
		t.Error(n)
	}
	if s := c.Bytes(3); s != "xyz" {
		t.Error(s)
	}
	checkState(t, c, 14, 1, api.OK, api.ErrBad)
	if n := c.Little(1); n != '!' {
		t.Error(n)
	}
	checkState(t, c, 15, 0, api.OK, api.OK)
}

// What is asked of a cursor; need is how many bytes it takes, or -1 where it can't be asked.
type ask struct {
	name string
	need int
	call func(c *octets.Cursor) bool // whether the answer was nought
}

func askInt(size, need int) ask {
	return ask{"Int", need, func(c *octets.Cursor) bool { return c.Int(size) == 0 }}
}

func askLittle(size, need int) ask {
	return ask{"Little", need, func(c *octets.Cursor) bool { return c.Little(size) == 0 }}
}

func askBytes(n, need int) ask {
	return ask{"Bytes", need, func(c *octets.Cursor) bool { return c.Bytes(n) == "" }}
}

func rightAsks() []ask {
	out := []ask{{"Signed", 4, func(c *octets.Cursor) bool { return c.Signed() == 0 }}}
	for _, size := range rightSizes {
		out = append(out, askInt(size, size), askLittle(size, size))
	}
	for _, n := range []int{1, 2, 3, 7} {
		out = append(out, askBytes(n, n))
	}
	return out
}

func wrongAsks() []ask {
	var out []ask
	for _, size := range wrongSizes {
		out = append(out, askInt(size, -1), askLittle(size, -1))
	}
	for _, n := range []int{-1, -2, -1 << 32, math.MinInt} {
		out = append(out, askBytes(n, -1))
	}
	return out
}

func TestCursorTakesJustEnoughAndRefusesOneLess(t *testing.T) {
	for _, a := range rightAsks() {
		for _, ahead := range []int{0, 1, 5} {
			c := octets.New(strings.Repeat("\x81", ahead+a.need))
			c.Bytes(ahead)
			if a.call(c) {
				t.Errorf("%s of %d bytes: nought", a.name, a.need)
			}
			checkState(t, c, ahead+a.need, 0, api.OK, api.OK)

			c = octets.New(strings.Repeat("\x81", ahead+a.need-1))
			c.Bytes(ahead)
			if !a.call(c) {
				t.Errorf("%s of %d bytes with one less: not nought", a.name, a.need)
			}
			checkState(t, c, ahead, a.need-1, api.ErrMore, api.ErrMore)
		}
	}
}

func TestCursorRefusesWhatCantBeAsked(t *testing.T) {
	for _, a := range wrongAsks() {
		// ErrArg is named ahead of ErrMore, so it is told of a text without bytes, too.
		for _, s := range []string{"", "\x81", "\x81\x82\x83\x84\x85\x86\x87\x88\x89"} {
			c := octets.New(s)
			if !a.call(c) {
				t.Errorf("%s: not nought", a.name)
			}
			checkState(t, c, 0, len(s), api.ErrArg, api.ErrArg)
		}
	}
}

func TestCursorKeepsTheFirstErrorForGood(t *testing.T) {
	later := append(append(rightAsks(), wrongAsks()...), askBytes(0, 0), askBytes(100, 100))
	for first, fail := range map[api.Errno]func(c *octets.Cursor){
		api.ErrArg:  func(c *octets.Cursor) { c.Bytes(-1) },
		api.ErrMore: func(c *octets.Cursor) { c.Bytes(100) },
	} {
		c := octets.New(strings.Repeat("\x81", 12))
		c.Bytes(2)
		fail(c)
		checkState(t, c, 2, 10, first, first)
		for _, a := range later {
			if !a.call(c) {
				t.Errorf("%s behind %v: not nought", a.name, first)
			}
			checkState(t, c, 2, 10, first, first)
		}
	}
	c := octets.New("a")
	c.Bytes(1)
	c.Int(3)
	checkState(t, c, 1, 0, api.ErrArg, api.ErrArg)
}

func TestEndKeepsNothing(t *testing.T) {
	c := octets.New("ab")
	if e := c.End(); e != api.ErrBad {
		t.Error(e)
	}
	if s := c.Bytes(2); s != "ab" {
		t.Errorf("%q", s)
	}
	checkState(t, c, 2, 0, api.OK, api.OK)
}

func TestWhatIsWrittenIsReadAgain(t *testing.T) {
	numbers := append([]int{}, edges...)
	for n := 1; n < 1<<32; n = n*3 + 1 {
		numbers = append(numbers, n, -n)
	}
	for n := range 1 << 10 {
		numbers = append(numbers, n)
	}
	for _, n := range numbers {
		for _, size := range rightSizes {
			readAgain(t, n, size)
		}
		s := octets.Signed(n)
		if (s != "") != (n >= -1<<31 && n <= 1<<31-1) {
			t.Errorf("Signed(%d): % x", n, s)
		}
		if s == "" {
			continue
		}
		for _, behind := range []string{"", "\x00", "\xff\xff\xff\xff\xff"} {
			c := octets.New(s + behind)
			if m := c.Signed(); m != n {
				t.Errorf("%d is read as %d", n, m)
			}
			checkRest(t, c, 4, behind)
		}
	}
}

func readAgain(t *testing.T, n, size int) {
	t.Helper()
	big, e := octets.Put(size, n)
	little, f := octets.Little(size, n)
	if fits := n >= 0 && n < 1<<(8*size); e != f || (e == api.OK) != fits {
		t.Errorf("%d in %d: %v, %v", n, size, e, f)
	}
	if e != api.OK {
		return
	}
	for _, behind := range []string{"", "\x00", "\xff\xff\xff\xff\xff"} {
		c := octets.New(big + behind)
		if m := c.Int(size); m != n {
			t.Errorf("Int(%d): %d is read as %d", size, n, m)
		}
		checkRest(t, c, size, behind)
		c = octets.New(little + behind)
		if m := c.Little(size); m != n {
			t.Errorf("Little(%d): %d is read as %d", size, n, m)
		}
		checkRest(t, c, size, behind)
	}
}

func TestWhatIsReadIsWrittenAgain(t *testing.T) {
	for n := range 1 << 16 {
		s := string([]byte{byte(n >> 8), byte(n)})
		if w, e := octets.Put(2, octets.New(s).Int(2)); w != s || e != api.OK {
			t.Fatalf("Int(2) of % x: % x", s, w)
		}
		if w, e := octets.Little(2, octets.New(s).Little(2)); w != s || e != api.OK {
			t.Fatalf("Little(2) of % x: % x", s, w)
		}
		s += string([]byte{byte(n * 7), byte(n>>8 ^ n)})
		if w := octets.Signed(octets.New(s).Signed()); w != s {
			t.Fatalf("Signed of % x: % x", s, w)
		}
	}
}

func TestCursorsKnowNothingOfEachOther(t *testing.T) {
	s := "abcdef"
	a, b := octets.New(s), octets.New(s)
	a.Bytes(2)
	a.Bytes(-1)
	checkState(t, b, 0, 6, api.OK, api.ErrBad)
	if x := b.Bytes(6); x != s {
		t.Errorf("%q", x)
	}
	checkState(t, a, 2, 4, api.ErrArg, api.ErrArg)
}

func TestZeroCursorIsOfTheEmptyText(t *testing.T) {
	for _, c := range []*octets.Cursor{{}, octets.New("")} {
		checkState(t, c, 0, 0, api.OK, api.OK)
		if s := c.Bytes(0); s != "" {
			t.Errorf("%q", s)
		}
		checkState(t, c, 0, 0, api.OK, api.OK)
		if n := c.Int(1); n != 0 {
			t.Error(n)
		}
		checkState(t, c, 0, 0, api.ErrMore, api.ErrMore)
	}
}

func TestNothingPanics(t *testing.T) {
	asks := append(append(rightAsks(), wrongAsks()...), askBytes(0, 0), askBytes(math.MaxInt, math.MaxInt))
	for _, a := range asks {
		for _, c := range []*octets.Cursor{nil, {}, octets.New(""), octets.New("\x81")} {
			a.call(c)
			c.Err()
			c.End()
			if c.At() < 0 || c.Left() < 0 {
				t.Errorf("%s: at %d, left %d", a.name, c.At(), c.Left())
			}
		}
	}
	for _, size := range append(append([]int{}, wrongSizes...), edges...) {
		for _, n := range edges {
			octets.Put(size, n)
			octets.Little(size, n)
			octets.Signed(n)
		}
	}
}

func checkState(t *testing.T, c *octets.Cursor, at, left int, err, end api.Errno) {
	t.Helper()
	if c.At() != at || c.Left() != left || c.Err() != err || c.End() != end {
		t.Errorf("at %d, left %d, %v, %v; want at %d, left %d, %v, %v", c.At(), c.Left(), c.Err(), c.End(), at, left, err, end)
	}
}

func checkRest(t *testing.T, c *octets.Cursor, at int, behind string) {
	t.Helper()
	end := api.OK
	if behind != "" {
		end = api.ErrBad
	}
	checkState(t, c, at, len(behind), api.OK, end)
	if s := c.Bytes(len(behind)); s != behind {
		t.Errorf("behind it: % x", s)
	}
}
