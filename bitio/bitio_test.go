package bitio_test

import (
	"go/format"
	"go/parser"
	"go/token"
	"math"
	"os"
	"strconv"
	"strings"
	"testing"

	"mirador/api"
	"mirador/bitio"
)

// Counts of bits at and around the edges, and far beyond them.
var counts = []int{
	math.MinInt, math.MinInt + 1, -1 << 32, -33, -32, -8, -1, 0, 1, 2, 3, 5, 7, 8, 9, 15, 16, 17,
	23, 24, 25, 30, 31, 32, 33, 34, 40, 63, 64, 65, 255, 256, 1 << 32, 1<<32 + 1, math.MaxInt - 1, math.MaxInt,
}

var values = []int{
	math.MinInt, math.MinInt + 1, -1<<40 - 5, -1 << 32, -1<<31 - 1, -1 << 31, -256, -2, -1, 0, 1, 2, 5, 6, 9,
	127, 128, 255, 256, 0xa5, 0x1234, 65535, 0x5a5a5a5a, 0x89abcdef, 1<<31 - 1, 1 << 31, 1<<32 - 2, 1<<32 - 1,
	1 << 32, 1<<40 + 5, math.MaxInt - 1, math.MaxInt,
}

// counted is how many bits a count stands for, as the chapter says it.
func counted(n int) int {
	switch {
	case n < 0:
		return 0
	case n > 32:
		return 32
	}
	return n
}

// row is a model of bits: a 0 or a 1 for each, the first one first.
type row string

func (r row) bits(n, v int) row {
	for i := 0; i < counted(n); i++ {
		r += row(strconv.Itoa(int(uint64(v) >> i & 1)))
	}
	return r
}

func (r row) code(c api.Code) row {
	for i := counted(c.Len) - 1; i >= 0; i-- {
		r += row(strconv.Itoa(int(uint64(c.Bits) >> i & 1)))
	}
	return r
}

func (r row) align() row {
	for len(r)%8 > 0 {
		r += "0"
	}
	return r
}

func (r row) bytes(s string) row {
	r = r.align()
	for i := range len(s) {
		r = r.bits(8, int(s[i]))
	}
	return r
}

// number is the bits of a row as a number, the first one the lowest.
func (r row) number() int {
	n := 0
	for i := len(r) - 1; i >= 0; i-- {
		n = 2*n + int(r[i]-'0')
	}
	return n
}

func (r row) text() string {
	r = r.align()
	b := []byte{}
	for ; len(r) > 0; r = r[8:] {
		b = append(b, byte(r[:8].number()))
	}
	return string(b)
}

func checkWriter(t *testing.T, w *bitio.Writer, want row) {
	t.Helper()
	if w.Len() != len(want) || w.String() != want.text() {
		t.Fatalf("%d bits, % x; want %d, % x", w.Len(), w.String(), len(want), want.text())
	}
}

func checkReader(t *testing.T, r *bitio.Reader, at, left int, e api.Errno) {
	t.Helper()
	if r.At() != at || r.Left() != left || r.Err() != e {
		t.Errorf("at %d, left %d, %v; want at %d, left %d, %v", r.At(), r.Left(), r.Err(), at, left, e)
	}
}

func TestExamples(t *testing.T) {
	var w bitio.Writer
	w.Bits(3, 5)
	w.Bits(2, 1)
	if w.String() != "\x0d" || w.Len() != 5 {
		t.Errorf("% x, %d", w.String(), w.Len())
	}
	var v bitio.Writer
	v.Code(api.Code{Bits: 6, Len: 3})
	if v.String() != "\x03" || v.Len() != 3 {
		t.Errorf("% x, %d", v.String(), v.Len())
	}
}

func TestWriterPutsBitsBehindOneAnother(t *testing.T) {
	var w bitio.Writer
	for _, x := range []struct {
		n, v, len int
		s         string
	}{
		{0, 9, 0, ""},
		{1, 1, 1, "\x01"},
		{1, 0, 2, "\x01"},
		{3, 5, 5, "\x15"},
		{3, 4, 8, "\x95"},
		{0, 1, 8, "\x95"},
		{4, 0xf9, 12, "\x95\x09"},
		{8, 0xab, 20, "\x95\xb9\x0a"},
		{12, -1, 32, "\x95\xb9\xfa\xff"},
		{1, 0, 33, "\x95\xb9\xfa\xff\x00"},
		{32, 0x89abcdef, 65, "\x95\xb9\xfa\xff\xde\x9b\x57\x13\x01"},
	} {
		w.Bits(x.n, x.v)
		if w.Len() != x.len || w.String() != x.s {
			t.Errorf("behind Bits(%d, %d): %d bits, % x", x.n, x.v, w.Len(), w.String())
		}
	}
}

func TestWriterTakesTheLowestBitsOfEachValue(t *testing.T) {
	for _, n := range counts {
		for _, v := range values {
			for ahead := range 9 {
				var w bitio.Writer
				w.Bits(ahead, 0x55)
				w.Bits(n, v)
				checkWriter(t, &w, row("").bits(ahead, 0x55).bits(n, v))
				// What stands behind shows that bits of v beyond n are not left in the byte.
				w.Bits(9, 0x100)
				checkWriter(t, &w, row("").bits(ahead, 0x55).bits(n, v).bits(9, 0x100))
			}
		}
	}
}

func TestReverseTurnsBitsRound(t *testing.T) {
	for _, x := range []struct{ bits, len, want int }{
		{0, 0, 0}, {3, 0, 0}, {-1, 0, 0}, {-1, -1, 0}, {-1, math.MinInt, 0},
		{0, 1, 0}, {1, 1, 1}, {2, 1, 0}, {3, 1, 1},
		{6, 3, 3}, {1, 4, 8}, {8, 4, 1}, {255, 3, 7}, {8, 3, 0}, {0b1101, 4, 0b1011}, {0b11010, 5, 0b01011},
		{1, 15, 1 << 14}, {1, 31, 1 << 30}, {1, 32, 1 << 31}, {1 << 31, 32, 1}, {1 << 32, 32, 0},
		{1, 33, 1 << 31}, {1, 40, 1 << 31}, {1 << 39, 40, 0}, {2, math.MaxInt, 1 << 30},
		{-1, 32, 1<<32 - 1}, {-2, 32, 1<<31 - 1}, {-1, 99, 1<<32 - 1}, {math.MinInt, 32, 0}, {math.MaxInt, 32, 1<<32 - 1},
	} {
		if n := bitio.Reverse(api.Code{Bits: x.bits, Len: x.len}); n != x.want {
			t.Errorf("Reverse of %d, %d: %d, want %d", x.bits, x.len, n, x.want)
		}
	}
	for _, l := range counts {
		for _, v := range values {
			if n, want := bitio.Reverse(api.Code{Bits: v, Len: l}), row("").code(api.Code{Bits: v, Len: l}).number(); n != want {
				t.Errorf("Reverse of %d, %d: %d, want %d", v, l, n, want)
			}
		}
	}
}

func TestReverseTwiceIsTheCode(t *testing.T) {
	for l := range 12 {
		for v := range 1 << l {
			once := bitio.Reverse(api.Code{Bits: v, Len: l})
			if twice := bitio.Reverse(api.Code{Bits: once, Len: l}); twice != v {
				t.Fatalf("%d of %d bits: %d, then %d", v, l, once, twice)
			}
		}
	}
}

func TestWriterPutsCodesGreatestBitFirst(t *testing.T) {
	var w bitio.Writer
	w.Code(api.Code{Bits: 0b1110, Len: 4})
	w.Code(api.Code{Bits: 0b00, Len: 2})
	w.Code(api.Code{Bits: 0b011, Len: 3})
	w.Code(api.Code{})
	if w.String() != "\x87\x01" || w.Len() != 9 {
		t.Errorf("% x, %d", w.String(), w.Len())
	}
	for _, l := range counts {
		for _, v := range values {
			c := api.Code{Bits: v, Len: l}
			var w bitio.Writer
			w.Bits(3, 2)
			w.Code(c)
			w.Bits(2, 1)
			checkWriter(t, &w, row("").bits(3, 2).code(c).bits(2, 1))
		}
	}
}

func TestWriterAligns(t *testing.T) {
	for n := range 33 {
		var w bitio.Writer
		w.Bits(n, -1)
		want := (n + 7) / 8 * 8
		for range 2 {
			w.Align()
			if w.Len() != want {
				t.Errorf("Align behind %d bits: %d", n, w.Len())
			}
			checkWriter(t, &w, row("").bits(n, -1).align())
		}
		w.Bits(1, 1)
		checkWriter(t, &w, row("").bits(n, -1).align().bits(1, 1))
	}
}

func TestWriterPutsWholeBytesIn(t *testing.T) {
	var all []byte
	for i := range 256 {
		all = append(all, byte(i))
	}
	for _, s := range []string{"", "a", "\x00", "\xff\x80", "ab\x00\xff", string(all)} {
		for n := range 18 {
			var w bitio.Writer
			w.Bits(n, -1)
			w.Bytes(s)
			checkWriter(t, &w, row("").bits(n, -1).bytes(s))
			// Bits behind whole bytes begin one of their own.
			w.Bits(3, 5)
			checkWriter(t, &w, row("").bits(n, -1).bytes(s).bits(3, 5))
		}
	}
}

func TestAskingAWriterChangesNothing(t *testing.T) {
	var w bitio.Writer
	want := row("")
	told := map[int]string{}
	for i := range 50 {
		w.Bits(3, i)
		want = want.bits(3, i)
		checkWriter(t, &w, want)
		checkWriter(t, &w, want)
		told[i] = w.String()
	}
	for i, s := range told {
		if x := want[:3*(i+1)].text(); s != x {
			t.Errorf("what was told is now % x, want % x", s, x)
		}
	}
}

func TestWriterIsReadyAndAlone(t *testing.T) {
	var a, b bitio.Writer
	checkWriter(t, &a, "")
	a.Bits(5, 31)
	checkWriter(t, &b, "")
	b.Bytes("xyz")
	a.Bytes("abc")
	checkWriter(t, &a, row("").bits(5, 31).bytes("abc"))
	checkWriter(t, &b, row("").bytes("xyz"))
}

func TestReaderGoesThroughBits(t *testing.T) {
	r := bitio.New("\x95\xb9\xfa\xff\xde\x9b\x57\x13\x01")
	at := 0
	for _, x := range []struct{ n, want int }{
		{1, 1}, {0, 0}, {1, 0}, {3, 5}, {3, 4}, {4, 9}, {-1, 0}, {8, 0xab}, {12, 0xfff}, {1, 0}, {32, 0x89abcdef}, {7, 0}, {0, 0},
	} {
		if v := r.Bits(x.n); v != x.want {
			t.Errorf("Bits(%d) at %d: %d, want %d", x.n, at, v, x.want)
		}
		at += max(x.n, 0)
		checkReader(t, r, at, 72-at, api.OK)
	}
}

func TestReaderTakesCountsFrom0To32(t *testing.T) {
	s := "\x6d\x92\xa5\xff\x00\x81\x7e\xc3"
	bits := row("").bytes(s)
	for _, n := range counts {
		for ahead := range 33 {
			r := bitio.New(s)
			r.Bits(ahead)
			if v, want := r.Bits(n), bits[ahead:ahead+counted(n)].number(); v != want {
				t.Errorf("Bits(%d) at %d: %d, want %d", n, ahead, v, want)
			}
			checkReader(t, r, ahead+counted(n), 64-ahead-counted(n), api.OK)
		}
	}
	if v := bitio.New("\xff\xff\xff\xff").Bits(32); v != 1<<32-1 {
		t.Errorf("32 bits of 1: %d", v)
	}
}

func TestReaderAligns(t *testing.T) {
	s := "\x6d\xb2\xff"
	bits := row("").bytes(s)
	for n := range 25 {
		r := bitio.New(s)
		r.Bits(n)
		to := (n + 7) / 8 * 8
		if v, want := r.Align(), bits[n:to].number(); v != want {
			t.Errorf("Align at %d: %d, want %d", n, v, want)
		}
		checkReader(t, r, to, 24-to, api.OK)
		if v := r.Align(); v != 0 {
			t.Errorf("Align at a whole byte: %d", v)
		}
		checkReader(t, r, to, 24-to, api.OK)
	}
}

func TestReaderHasWholeBytes(t *testing.T) {
	s := "ab\x00\xffcd"
	for n := range 8*len(s) + 1 {
		from := (n + 7) / 8
		for size := -2; size <= len(s)+2; size++ {
			r := bitio.New(s)
			for range n {
				r.Bits(1)
			}
			got, take := r.Bytes(size), max(size, 0)
			if take <= len(s)-from {
				if got != s[from:from+take] {
					t.Errorf("Bytes(%d) at %d: %q", size, n, got)
				}
				checkReader(t, r, 8*(from+take), 8*(len(s)-from-take), api.OK)
				continue
			}
			if got != "" {
				t.Errorf("Bytes(%d) at %d: %q", size, n, got)
			}
			checkReader(t, r, n, 8*len(s)-n, api.ErrMore)
		}
	}
}

func TestReaderRefusesBytesByTheHugeNumber(t *testing.T) {
	// Of some of these 8 times as many, or the sum with what was passed, would wrap round.
	for _, n := range []int{1 << 32, 1 << 59, 1 << 60, 1 << 61, 1<<61 + 1, 1 << 62, 1<<62 + 1, math.MaxInt - 1, math.MaxInt} {
		for _, ahead := range []int{0, 1, 7, 8, 16, 17} {
			r := bitio.New("abcd")
			r.Bits(ahead)
			if s := r.Bytes(n); s != "" {
				t.Errorf("Bytes(%d): %q", n, s)
			}
			checkReader(t, r, ahead, 32-ahead, api.ErrMore)
		}
	}
	r := bitio.New("abcd")
	r.Bits(3)
	if s := r.Bytes(math.MinInt); s != "" {
		t.Errorf("%q", s)
	}
	checkReader(t, r, 8, 24, api.OK)
}

func TestReaderHasJustEnoughBitsAndNotOneMore(t *testing.T) {
	s := "\xff\xff\xff\xff"
	for left := range 32 {
		r := bitio.New(s)
		r.Bits(32 - left)
		if v := r.Bits(left); v != 1<<left-1 {
			t.Errorf("all %d: %d", left, v)
		}
		checkReader(t, r, 32, 0, api.OK)

		for _, n := range []int{left + 1, 32, 33, math.MaxInt} {
			r = bitio.New(s)
			r.Bits(32 - left)
			if v := r.Bits(n); v != 0 {
				t.Errorf("%d of %d: %d", n, left, v)
			}
			checkReader(t, r, 32-left, left, api.ErrMore)
		}
	}
}

func TestReaderKeepsTheErrorForGood(t *testing.T) {
	for _, fail := range []func(r *bitio.Reader){
		func(r *bitio.Reader) { r.Bits(32) },
		func(r *bitio.Reader) { r.Bytes(3) },
		func(r *bitio.Reader) { r.Bytes(math.MaxInt) },
	} {
		r := bitio.New("\xff\xff\xff")
		r.Bits(3)
		fail(r)
		checkReader(t, r, 3, 21, api.ErrMore)
		for range 2 {
			for _, n := range counts {
				if v := r.Bits(n); v != 0 {
					t.Errorf("Bits(%d) behind an error: %d", n, v)
				}
				if s := r.Bytes(n); s != "" {
					t.Errorf("Bytes(%d) behind an error: %q", n, s)
				}
				checkReader(t, r, 3, 21, api.ErrMore)
			}
			if v := r.Align(); v != 0 {
				t.Errorf("Align behind an error: %d", v)
			}
			checkReader(t, r, 3, 21, api.ErrMore)
		}
	}
}

func TestReaderOfTheEmptyText(t *testing.T) {
	for _, r := range []*bitio.Reader{{}, bitio.New("")} {
		checkReader(t, r, 0, 0, api.OK)
		if r.Bits(0) != 0 || r.Bits(-1) != 0 || r.Align() != 0 || r.Bytes(0) != "" || r.Bytes(-1) != "" {
			t.Error("something of nothing")
		}
		checkReader(t, r, 0, 0, api.OK)
		if v := r.Bits(1); v != 0 {
			t.Error(v)
		}
		checkReader(t, r, 0, 0, api.ErrMore)
	}
}

func TestReadersKnowNothingOfEachOther(t *testing.T) {
	a, b := bitio.New("\x6d\x01"), bitio.New("\x6d\x01")
	a.Bits(3)
	a.Bits(32)
	checkReader(t, b, 0, 16, api.OK)
	if v := b.Bits(16); v != 0x016d {
		t.Error(v)
	}
	checkReader(t, a, 3, 13, api.ErrMore)
}

func TestWhatIsWrittenIsReadAgain(t *testing.T) {
	state := uint64(1)
	next := func(n int) int {
		state = state*6364136223846793005 + 1442695040888963407
		return int(state>>33) % n
	}
	for range 300 {
		var w bitio.Writer
		want := row("")
		var reads []func(r *bitio.Reader)
		for range next(40) {
			n, v, ahead := next(36)-1, next(1<<30)<<4-next(1<<30), len(want)
			switch next(4) {
			case 0:
				w.Bits(n, v)
				want = want.bits(n, v)
				part := want[ahead:].number()
				reads = append(reads, func(r *bitio.Reader) {
					if x := r.Bits(n); x != part {
						t.Errorf("Bits(%d) of %d: %d, want %d", n, v, x, part)
					}
				})
			case 1:
				c := api.Code{Bits: v, Len: n}
				w.Code(c)
				want = want.code(c)
				part := want[ahead:]
				reads = append(reads, func(r *bitio.Reader) {
					for i := range part {
						if x := r.Bits(1); x != int(part[i]-'0') {
							t.Errorf("bit %d of code %v: %d", i, c, x)
						}
					}
				})
			case 2:
				w.Align()
				want = want.align()
				reads = append(reads, func(r *bitio.Reader) {
					if x := r.Align(); x != 0 {
						t.Errorf("Align: %d", x)
					}
				})
			case 3:
				s := strings.Repeat(string([]byte{byte(v), byte(n)}), next(4))
				w.Bytes(s)
				want = want.bytes(s)
				reads = append(reads, func(r *bitio.Reader) {
					if x := r.Bytes(len(s)); x != s {
						t.Errorf("Bytes: %q, want %q", x, s)
					}
				})
			}
			checkWriter(t, &w, want)
		}
		r := bitio.New(w.String())
		for _, read := range reads {
			read(r)
		}
		checkReader(t, r, w.Len(), 8*len(w.String())-w.Len(), api.OK)
		if r.Align() != 0 || r.Left() != 0 {
			t.Errorf("behind all of it: left %d", r.Left())
		}
	}
}

func TestWhatIsReadIsWrittenAgain(t *testing.T) {
	var b []byte
	for i := range 500 {
		b = append(b, byte(i*i>>3^i))
	}
	for n := 1; n <= 32; n++ {
		r, w := bitio.New(string(b)), bitio.Writer{}
		for r.Left() > 0 {
			size := min(n, r.Left())
			w.Bits(size, r.Bits(size))
		}
		if w.String() != string(b) || w.Len() != 8*len(b) || r.Err() != api.OK {
			t.Errorf("by %d bits: %d of them, %v", n, w.Len(), r.Err())
		}
	}
}

func TestNothingPanics(t *testing.T) {
	for _, n := range counts {
		for _, v := range values {
			c := api.Code{Bits: v, Len: n}
			if x := bitio.Reverse(c); x < 0 || x >= 1<<32 {
				t.Errorf("Reverse of %v: %d", c, x)
			}
			for _, w := range []*bitio.Writer{nil, {}} {
				w.Bits(n, v)
				w.Code(c)
				w.Align()
				w.Bytes("a")
				if w.Len() != 8*len(w.String()) {
					t.Errorf("%d bits in %d bytes", w.Len(), len(w.String()))
				}
			}
		}
		for _, m := range counts {
			for _, r := range []*bitio.Reader{nil, {}, bitio.New("\x81"), bitio.New("\x81\x82\x83\x84\x85\x86")} {
				all := r.Left()
				r.Bits(m)
				r.Bytes(n)
				r.Align()
				r.Bits(n)
				if r.At() < 0 || r.Left() < 0 || r.At()+r.Left() != all {
					t.Errorf("at %d, left %d of %d", r.At(), r.Left(), all)
				}
			}
		}
	}
}

func TestNilWriterAndReaderHaveNothing(t *testing.T) {
	var w *bitio.Writer
	w.Bits(8, 255)
	w.Code(api.Code{Bits: 1, Len: 1})
	w.Bytes("abc")
	w.Align()
	checkWriter(t, w, "")
	var r *bitio.Reader
	if r.Bits(1) != 0 || r.Align() != 0 || r.Bytes(1) != "" || r.Bytes(0) != "" {
		t.Error("something of nothing")
	}
	checkReader(t, r, 0, 0, api.ErrMore)
}

// The layer stands on api alone: so it can ask no clock, no chance, no file and no network.
func TestSourceStandsOnApiAlone(t *testing.T) {
	src, err := os.ReadFile("bitio.go")
	if err != nil {
		t.Fatal(err)
	}
	f, err := parser.ParseFile(token.NewFileSet(), "bitio.go", src, parser.ImportsOnly)
	if err != nil {
		t.Fatal(err)
	}
	for _, i := range f.Imports {
		if i.Path.Value != `"mirador/api"` {
			t.Errorf("import of %s", i.Path.Value)
		}
	}
	if tidy, err := format.Source(src); err != nil || string(tidy) != string(src) {
		t.Errorf("not gofmt's layout: %v", err)
	}
}
