package deflate_test

import (
	"bytes"
	"compress/flate"
	"go/format"
	"go/parser"
	"go/token"
	"io"
	"math"
	"os"
	"slices"
	"strings"
	"sync"
	"testing"

	"mirador/api"
	"mirador/bitio"
	"mirador/deflate"
	"mirador/inflate"
	"mirador/lz"
	"mirador/symbols"
)

// chance answers numbers from 0 to n - 1, the same ones for every seed.
func chance(seed uint64) func(n int) int {
	return func(n int) int {
		seed = seed*6364136223846793005 + 1442695040888963407
		return int(seed>>33) % n
	}
}

// anyBytes are n bytes that have nothing in common, by a seed.
func anyBytes(seed uint64, n int) string {
	pick := chance(seed)
	b := make([]byte, n)
	for i := range b {
		b[i] = byte(pick(256))
	}
	return string(b)
}

// times is a list of n numbers that are alike.
func times(n, v int) []int { return slices.Repeat([]int{v}, n) }

func byteOf(b int) api.Token        { return api.Token{Byte: b} }
func piece(length, d int) api.Token { return api.Token{Len: length, Dist: d} }

// bitsOf is the bits of a text, as 0s and 1s.
func bitsOf(s string) string {
	var b strings.Builder
	for i := range len(s) {
		for k := range 8 {
			b.WriteByte('0' + s[i]>>k&1)
		}
	}
	return b.String()
}

// low is n bits of a number as 0s and 1s, the lowest one first.
func low(v, n int) string {
	b := make([]byte, n)
	for i := range b {
		b[i] = byte('0' + v>>i&1)
	}
	return string(b)
}

// one is 1 of what is so.
func one(so bool) int {
	if so {
		return 1
	}
	return 0
}

// starts are how many bits stand ahead of what is written.
var starts = []int{0, 1, 2, 4, 5, 6, 7, 13}

// behind is a writer that has so many bits of 1.
func behind(start int) *bitio.Writer {
	var w bitio.Writer
	for range start {
		w.Bits(1, 1)
	}
	return &w
}

// written is a writer's bits as 0s and 1s.
func written(w *bitio.Writer) string { return bitsOf(w.String())[:w.Len()] }

// restOf is a reader of what a writer has, from there on.
func restOf(w *bitio.Writer, start int) *bitio.Reader {
	r := bitio.New(w.String())
	r.Bits(start)
	return r
}

// read is what the library makes of blocks, as far as they go, and whether one of them is the last one.
func read(window, s string) (string, bool) {
	r := flate.NewReaderDict(strings.NewReader(s), []byte(window))
	b, err := io.ReadAll(r)
	return string(b), err == nil
}

// both are false and true.
var both = []bool{false, true}

func TestExample(t *testing.T) {
	var w bitio.Writer
	deflate.Stored(&w, "ab", true)
	if w.String() != "\x01\x02\x00\xfd\xffab" || w.Len() != 56 {
		t.Errorf("%x, %d", w.String(), w.Len())
	}
}

// stored is the rule for Stored, behind so many bits.
func stored(start int, s string, last bool) string {
	bits := ""
	for first := true; first || s != ""; first = false {
		p := s[:min(len(s), 65535)]
		s = s[len(p):]
		bits += low(one(last && s == ""), 1) + "00"
		for (start+len(bits))%8 != 0 {
			bits += "0"
		}
		bits += low(len(p)%256, 8) + low(len(p)/256, 8) + low(255-len(p)%256, 8) + low(255-len(p)/256, 8) + bitsOf(p)
	}
	return bits
}

func TestStored(t *testing.T) {
	t.Parallel()
	all := anyBytes(1, 3*65535)
	for _, n := range []int{0, 1, 2, 3, 255, 256, 257, 65534, 65535, 65536, 65537, 2*65535 - 1, 2 * 65535, 2*65535 + 1, 3 * 65535} {
		for _, last := range both {
			for _, start := range starts {
				s := all[:n]
				w := behind(start)
				deflate.Stored(w, s, last)
				if written(w) != strings.Repeat("1", start)+stored(start, s, last) {
					t.Errorf("Stored of %d bytes, %v, behind %d bits: %d bits, %x ..", n, last, start, w.Len(), w.String()[:7])
				}
			}
		}
	}
}

func TestStoredIsReadAgain(t *testing.T) {
	all := anyBytes(2, 2*65535+1)
	for _, n := range []int{0, 1, 300, 65535, 65536, 2 * 65535, 2*65535 + 1} {
		s := all[:n]
		var w, v bitio.Writer
		deflate.Stored(&w, s, true)
		blocks := max(1, (n+65534)/65535)
		if u, begun, e := inflate.Whole("", w.String(), n); u != s || begun != n+5*blocks || begun != len(w.String()) || e != api.OK {
			t.Errorf("of %d bytes: %d, %d, %v", n, len(u), begun, e)
		}
		if u, ok := read("", w.String()); u != s || !ok {
			t.Errorf("of %d bytes: the library reads %d, %v", n, len(u), ok)
		}
		deflate.Stored(&v, s, false)
		deflate.Stored(&v, "", false)
		if u, e := inflate.Segment("", v.String(), n); u != s || e != api.OK {
			t.Errorf("of %d bytes: %d, %v", n, len(u), e)
		}
		if u, ok := read("", v.String()); u != s || ok {
			t.Errorf("of %d bytes: the library reads %d, %v", n, len(u), ok)
		}
	}
}

// checkLengths reads a header again, behind some bits, and ahead of some.
func checkLengths(t *testing.T, lits, dists []int) {
	t.Helper()
	a, b := slices.Clone(lits), slices.Clone(dists)
	for _, start := range []int{0, 3} {
		w := behind(start)
		if e := deflate.Lengths(w, lits, dists); e != api.OK {
			t.Fatalf("Lengths of %v, %v: %v", lits, dists, e)
		}
		end := w.Len()
		w.Bits(9, 0x155)
		if !strings.HasPrefix(written(w), strings.Repeat("1", start)) {
			t.Fatalf("Lengths of %v, %v: what stands ahead is another thing", lits, dists)
		}
		r := restOf(w, start)
		u, v, e := inflate.Header(r)
		if !slices.Equal(u, a) || !slices.Equal(v, b) || e != api.OK || r.At() != end || r.Bits(9) != 0x155 {
			t.Fatalf("Lengths of %v, %v: read as %v, %v, %v, %d bits of %d", a, b, u, v, e, r.At()-start, end-start)
		}
	}
	if !slices.Equal(lits, a) || !slices.Equal(dists, b) {
		t.Fatalf("Lengths changed its rows: %v, %v; they were %v, %v", lits, dists, a, b)
	}
}

func TestLengthsOfRuns(t *testing.T) {
	t.Parallel()
	for length := range 16 {
		other := (length + 7) % 16
		for n := range 316 {
			// A run at the beginning, one at the end, and one from the one row into the other one.
			l := append(times(n, length), times(316-n, other)...)
			checkLengths(t, l[:286], l[286:])
			slices.Reverse(l)
			checkLengths(t, l[:286], l[286:])
			if n >= 2 && n <= 286 {
				l = slices.Concat(times(286-n/2, other), times(n, length), times(30-n+n/2+286, other))[:316]
				checkLengths(t, l[:286], l[286:])
			}
		}
	}
}

func TestLengthsOfAnyRows(t *testing.T) {
	pick := chance(3)
	for range 3000 {
		n := 257 + pick(30) + 1 + pick(30)
		var l []int
		kinds, longest := 1+pick(16), 1<<pick(8)
		for len(l) < n {
			l = append(l, times(1+pick(longest), pick(kinds)*pick(2))...)
		}
		dists := min(30, 1+pick(n-257))
		lits := min(286, n-dists)
		checkLengths(t, l[:lits], l[lits:lits+dists])
	}
	for range 300 {
		l := make([]int, 316)
		for i := range l {
			l[i] = pick(16)
		}
		checkLengths(t, l[:286], l[286:])
	}
}

func TestLengthsOfAllCounts(t *testing.T) {
	l := append(times(256, 0), times(60, 5)...)
	for lits := 257; lits <= 286; lits++ {
		for dists := 1; dists <= 30; dists++ {
			checkLengths(t, l[:lits], l[286:286+dists])
			checkLengths(t, times(lits, 0), times(dists, 0))
			checkLengths(t, times(lits, 15), times(dists, 15))
		}
	}
}

func TestLengthsThatAreWrong(t *testing.T) {
	with := func(l []int, at, n int) []int {
		l = slices.Clone(l)
		l[at] = n
		return l
	}
	lits, dists := times(286, 9), times(30, 5)
	wrong := [][2][]int{
		{nil, nil}, {nil, dists}, {lits, nil}, {{}, {}}, {lits[:1], dists}, {lits[:256], dists}, {times(287, 9), dists}, {times(288, 9), dists}, {times(100000, 9), dists},
		{lits, times(31, 5)}, {lits, times(32, 5)}, {lits, times(100000, 5)}, {lits[:256], times(31, 5)}, {lits[:256], nil}, {dists, lits},
	}
	for _, n := range []int{-1, 16, 17, 18, 19, 255, math.MinInt, math.MaxInt, 1 << 32, -16} {
		for _, at := range []int{0, 1, 255, 256, 285} {
			wrong = append(wrong, [2][]int{with(lits, at, n), dists})
		}
		for _, at := range []int{0, 1, 29} {
			wrong = append(wrong, [2][]int{lits, with(dists, at, n)})
		}
		wrong = append(wrong, [2][]int{with(lits[:257], 256, n), dists[:1]}, [2][]int{lits[:257], {n}})
	}
	for _, x := range wrong {
		for _, start := range starts {
			w := behind(start)
			if e := deflate.Lengths(w, x[0], x[1]); e != api.ErrArg || written(w) != strings.Repeat("1", start) {
				t.Errorf("Lengths of %d and %d: %v, %d bits of %d", len(x[0]), len(x[1]), e, w.Len(), start)
			}
		}
	}
	checkLengths(t, lits, dists)
	// Rows are a header's also where no code can have them.
	checkLengths(t, times(257, 1), times(1, 1))
}

// tokens are lists of valid ones, with a window that is long enough for each.
func tokens() [][]api.Token {
	var lengths, distances, skew, bytes []api.Token
	for n := lz.Least; n <= lz.Most; n++ {
		lengths = append(lengths, piece(n, 1+n%5))
	}
	for n := 1; n <= lz.Window; n += 1 + n/40 {
		distances = append(distances, piece(3+n%256, n), piece(3, lz.Window+1-n))
	}
	// Each symbol as often as both ahead of it: their best codes would be longer than may be.
	for sym, a, b := 0, 1, 1; sym < 24; sym, a, b = sym+1, b, a+b {
		skew = append(skew, slices.Repeat([]api.Token{byteOf(sym * 11)}, a)...)
	}
	for b := range 256 {
		bytes = append(bytes, byteOf(b))
	}
	return [][]api.Token{
		nil, {}, {byteOf(0)}, {byteOf(255)}, {byteOf('a'), byteOf('a')}, {byteOf('a'), byteOf('b')}, {piece(3, 1)}, {piece(258, 32768)}, {piece(257, 1), piece(258, 1)}, {byteOf('a'), piece(9, 1), byteOf('b')},
		lengths, distances, skew, bytes, slices.Concat(bytes, lengths, distances, bytes), lz.Pack("", "in the rain in the main"), lz.Pack("", strings.Repeat("in the rain", 3000)), lz.Plain(anyBytes(4, 70000)),
	}
}

func TestCoded(t *testing.T) {
	t.Parallel()
	window := anyBytes(5, lz.Window)
	for i, l := range tokens() {
		want, e := lz.Expand(window, l)
		if e != api.OK {
			t.Fatal(i, e)
		}
		before := slices.Clone(l)
		for _, own := range both {
			for _, last := range both {
				for _, start := range starts {
					w := behind(start)
					if e := deflate.Coded(w, l, own, last); e != api.OK {
						t.Fatalf("%d, %v, %v: %v", i, own, last, e)
					}
					checkBits(t, i, w, start, l, own, last)
					end := w.Len()
					w.Bits(7, 0x2a)
					r := restOf(w, start)
					if s, end1, e := inflate.Block(r, window, len(want)); s != want || end1 != last || e != api.OK || r.At() != end || r.Bits(7) != 0x2a {
						t.Fatalf("%d, %v, %v: %d bytes of %d, %v, %v, %d bits of %d", i, own, last, len(s), len(want), end1, e, r.At(), end)
					}
				}
			}
			var w bitio.Writer
			deflate.Coded(&w, l, own, true)
			if s, ok := read(window, w.String()); s != want || !ok {
				t.Fatalf("%d, %v: the library reads %d bytes of %d, %v", i, own, len(s), len(want), ok)
			}
		}
		if !slices.Equal(l, before) {
			t.Fatalf("%d: Coded changed its tokens", i)
		}
	}
}

// checkBits goes through a block's bits: whether it is the last one, its kind, its codes, its tokens.
func checkBits(t *testing.T, i int, w *bitio.Writer, start int, l []api.Token, own, last bool) {
	t.Helper()
	r := restOf(w, start)
	if is, kind := r.Bits(1), r.Bits(2); is != one(last) || kind != 1+one(own) {
		t.Fatalf("%d, %v, %v: last %d, kind %d", i, own, last, is, kind)
	}
	lits, dists := symbols.Fixed()
	if own {
		var e api.Errno
		if lits, dists, e = inflate.Header(r); e != api.OK {
			t.Fatalf("%d, %v, %v: %v", i, own, last, e)
		}
	}
	var v bitio.Writer
	if e := symbols.Write(&v, lits, dists, l); e != api.OK || written(w)[r.At():] != written(&v) || !strings.HasPrefix(written(w), strings.Repeat("1", start)) {
		t.Fatalf("%d, %v, %v: other bits than its codes ask for, or %v", i, own, last, e)
	}
}

func TestCodedOfWhatIsWrong(t *testing.T) {
	a := byteOf('a')
	for _, x := range []api.Token{
		{Byte: -1}, {Byte: 256}, {Byte: math.MinInt}, {Byte: math.MaxInt}, {Byte: 1, Len: 3, Dist: 1}, {Byte: 1, Dist: 1}, {Dist: 1}, {Dist: -1}, {Len: 1, Dist: 1}, {Len: 2, Dist: 1}, {Len: 2}, {Len: -1}, {Len: -3, Dist: 1}, {Len: 259, Dist: 1}, {Len: math.MaxInt, Dist: 1}, {Len: math.MinInt, Dist: 1},
		{Len: 3}, {Len: 3, Dist: -1}, {Len: 3, Dist: 32769}, {Len: 258, Dist: 32769}, {Len: 3, Dist: math.MaxInt}, {Len: 3, Dist: math.MinInt}, {Byte: -1, Len: 3, Dist: 1},
	} {
		for _, l := range [][]api.Token{{x}, {x, a}, {a, x}, {a, x, a}, {a, a, piece(3, 1), x}, append(slices.Repeat([]api.Token{a}, 70000), x)} {
			for _, own := range both {
				for _, last := range both {
					for _, start := range starts {
						w := behind(start)
						if e := deflate.Coded(w, l, own, last); e != api.ErrArg || written(w) != strings.Repeat("1", start) {
							t.Fatalf("Coded with %v: %v, %d bits of %d", x, e, w.Len(), start)
						}
					}
				}
			}
		}
	}
}

// texts are ones of several kinds.
func texts() []string {
	pick := chance(6)
	any := anyBytes(7, 70000)
	few, letters := make([]byte, 50000), make([]byte, 70000)
	for i := range few {
		few[i] = "aaab"[pick(4)] + byte(pick(1<<pick(4)))
	}
	for i := range letters {
		letters[i] = "acgt"[pick(4)]
	}
	return []string{
		"", "a", "ab", "\x00", "\xff", "in the rain in the main", strings.Repeat("x", 3), strings.Repeat("x", 100000), strings.Repeat("the rain ", 9000), any, string(few), string(letters), any[:32768] + any[:40000], any[:300] + string(few[:300]) + any[:300],
		"\x00\x00\xff\xff", strings.Repeat("\x00\x00\xff\xff", 3), strings.Repeat("\x00", 65536), any[:65535], any[:65536], string(few[:40000]) + any[:30000] + string(few), strings.Repeat("the rain ", 9000) + any + "in the main", any[:65535] + any[:65535],
	}
}

// check holds Whole and Segment of a text to what the chapter says of them.
func check(t *testing.T, window, s string) (whole, segment string) {
	t.Helper()
	whole, segment = deflate.Whole(window, s), deflate.Segment(window, s)
	if u, n, e := inflate.Whole(window, whole, len(s)); u != s || n != len(whole) || e != api.OK {
		t.Fatalf("Whole of %.60q (%d) behind %d: %d bytes, %d of %d, %v", s, len(s), len(window), len(u), n, len(whole), e)
	}
	if u, e := inflate.Segment(window, segment, len(s)); u != s || e != api.OK {
		t.Fatalf("Segment of %.60q (%d) behind %d: %d bytes, %v", s, len(s), len(window), len(u), e)
	}
	if most := len(s) + len(s)/1000 + 20; len(whole) > most || len(segment) > most {
		t.Fatalf("of %.60q (%d) behind %d: %d, %d bytes", s, len(s), len(window), len(whole), len(segment))
	}
	if u, ok := read(window, whole); u != s || !ok {
		t.Fatalf("Whole of %.60q (%d) behind %d: the library reads %d bytes, %v", s, len(s), len(window), len(u), ok)
	}
	if u, ok := read(window, segment+"\x03\x00"); u != s || !ok || !strings.HasSuffix(segment, "\x00\x00\xff\xff") {
		t.Fatalf("Segment of %.60q (%d) behind %d: the library reads %d bytes, %v", s, len(s), len(window), len(u), ok)
	}
	return whole, segment
}

func TestTextsBehindWindows(t *testing.T) {
	t.Parallel()
	l := texts()
	for i, s := range l {
		whole, segment := check(t, "", s)
		if deflate.Whole("", s) != whole || deflate.Segment("", s) != segment {
			t.Errorf("%d: another answer at the second time", i)
		}
		for _, window := range []string{"x", "the rain", s, s[:len(s)/2], s[len(s)/2:], l[9][:40000], l[10][:32769], l[len(l)-1-i]} {
			check(t, window, s)
		}
	}
}

func TestAllShortTexts(t *testing.T) {
	t.Parallel()
	l := []string{""}
	for range 6 {
		for _, s := range l {
			check(t, "", s)
			check(t, "ab\xff", s)
		}
		var longer []string
		for _, s := range l {
			longer = append(longer, s+"a", s+"b", s+"\xff")
		}
		l = longer
	}
	for b := range 256 {
		check(t, "", string([]byte{byte(b)}))
	}
}

func TestTextsOfAllLengths(t *testing.T) {
	t.Parallel()
	any := anyBytes(8, 2000)
	main := strings.Repeat("in the rain in the main ", 100)
	for n := range 400 {
		check(t, "", any[:n])
		check(t, any, any[:n])
		check(t, "", main[:n])
		check(t, main, main[:n])
	}
	for n := 400; n < 2000; n += 37 {
		check(t, "", any[:n])
		check(t, "", main[:n])
	}
	any = anyBytes(9, 1<<19)
	for _, n := range []int{32767, 32768, 32769, 65534, 65535, 65536, 65537, 2*65535 - 1, 2 * 65535, 2*65535 + 1, 1 << 18, 1 << 19} {
		check(t, "", any[:n])
		check(t, any[:n], any[:n])
	}
}

func TestOneByteManyTimes(t *testing.T) {
	t.Parallel()
	l := []int{65534, 65535, 65536, 65537, 2*65535 - 1, 2 * 65535, 2*65535 + 1, 1 << 20, 3000000}
	for n := range 1100 {
		l = append(l, n)
	}
	for n := 1100; n < 65000; n += n / 7 {
		l = append(l, n)
	}
	for _, b := range []string{"\x00", "x", "\x8f", "\x90", "\xff"} {
		for _, n := range l {
			s := strings.Repeat(b, n)
			whole, segment := check(t, "", s)
			if most := 20 + n/100; len(whole) > most || len(segment) > most {
				t.Errorf("%q comes %d times: %d, %d bytes", b, n, len(whole), len(segment))
			}
		}
	}
}

// kindOf is the kind of the first block.
func kindOf(s string) int {
	r := bitio.New(s)
	r.Bits(1)
	return r.Bits(2)
}

func TestTheShortestBlockIsWritten(t *testing.T) {
	t.Parallel()
	var came [3]int
	pick := chance(10)
	for _, s := range texts() {
		for range 6 {
			from := pick(len(s) + 1)
			s := s[from:min(from+pick(1<<(4+pick(13))), len(s), from+65535)]
			for _, window := range []string{"", s[:pick(len(s)+1)]} {
				whole := deflate.Whole(window, s)
				could := []*bitio.Writer{behind(0)}
				deflate.Stored(could[0], s, true)
				for _, l := range [][]api.Token{lz.Plain(s), lz.Pack(window, s)} {
					for _, own := range both {
						w := behind(0)
						deflate.Coded(w, l, own, true)
						could = append(could, w)
					}
				}
				for i, w := range could {
					if len(whole) > len(w.String()) {
						t.Errorf("of %.60q (%d): %d bytes; block %d has %d", s, len(s), len(whole), i, len(w.String()))
					}
				}
				came[kindOf(whole)]++
			}
		}
	}
	if slices.Contains(came[:], 0) {
		t.Error("a kind never came:", came)
	}
}

func TestAPieceMayTakeMoreThanItsBytes(t *testing.T) {
	// By the fixed codes three bytes have 24 bits, a piece that is so far back 25.
	words := []string{"abc", "def", "ghi", "jkl", "mno", "pqr", "stu", "vwx"}
	window := strings.Join(words, "-") + anyBytes(17, 30000)
	slices.Reverse(words)
	if whole, _ := check(t, window, strings.Join(words, "")); len(whole) > (3+8*24+7+7)/8 || kindOf(whole) != 1 {
		t.Errorf("%x", whole)
	}
}

func TestTheEmptyTextsBlocks(t *testing.T) {
	// The end's empty block is enough.
	for _, window := range []string{"", "the rain"} {
		if whole, segment := check(t, window, ""); len(whole) != 2 || len(segment) != 5 {
			t.Errorf("%x, %x", whole, segment)
		}
	}
}

func TestEachPieceHasABlockOfItsOwnKind(t *testing.T) {
	any, main := anyBytes(11, 65535), strings.Repeat("in the rain", 65535)[:65535]
	for _, window := range []string{"", main} {
		alone := len(deflate.Whole(window, main))
		if n := len(deflate.Whole(window, main+any+main+any+main)); n > 2*(65535+12)+3*(alone+8) {
			t.Errorf("%d bytes; %d of a piece alone", n, alone)
		}
	}
}

func TestAWindowIsOfUse(t *testing.T) {
	s := anyBytes(12, 20000)
	for _, window := range []string{s, s + anyBytes(13, 12768), anyBytes(14, 100000) + s} {
		if whole, segment := check(t, window, s); len(whole) > 400 || len(segment) > 400 {
			t.Errorf("behind %d: %d, %d bytes", len(window), len(whole), len(segment))
		}
	}
	// What a block makes is the window of the next one.
	first := anyBytes(18, 65535)
	if whole, segment := check(t, "", first+first[45000:]); len(whole) > len(first)+400 || len(segment) > len(first)+400 {
		t.Errorf("%d, %d bytes", len(whole), len(segment))
	}
	// What is farther back than a piece may go is not seen.
	far := s + anyBytes(15, 32768)
	if deflate.Whole(far, s) != deflate.Whole(far[20000:], s) || deflate.Segment(far, s) != deflate.Segment(far[20000:], s) {
		t.Error("bytes ahead of the window's last 32768 count")
	}
	check(t, far, s)
}

func TestSegmentsBehindOneAnother(t *testing.T) {
	t.Parallel()
	pick := chance(16)
	for range 20 {
		made, blocks := "", ""
		for range 1 + pick(12) {
			all := texts()[pick(len(texts()))]
			from := pick(len(all) + 1)
			s := all[from:min(from+pick(1<<(1+pick(16))), len(all))]
			window := made
			if pick(2) == 0 {
				window = lz.Tail(made)
			}
			_, segment := check(t, window, s)
			made += s
			blocks += segment
		}
		if u, e := inflate.Segment("", blocks, len(made)); u != made || e != api.OK {
			t.Fatalf("%d bytes of %d, %v", len(u), len(made), e)
		}
		blocks += deflate.Whole(made, "the main")
		made += "the main"
		if u, n, e := inflate.Whole("", blocks, len(made)); u != made || n != len(blocks) || e != api.OK {
			t.Fatalf("%d bytes of %d, %d of %d, %v", len(u), len(made), n, len(blocks), e)
		}
		if u, ok := read("", blocks); u != made || !ok {
			t.Fatalf("the library reads %d bytes of %d, %v", len(u), len(made), ok)
		}
	}
}

func TestWithoutAWriter(t *testing.T) {
	var w *bitio.Writer
	deflate.Stored(w, "", true)
	deflate.Stored(w, strings.Repeat("ab", 65535), false)
	lits, dists := symbols.Fixed()
	if e := deflate.Lengths(w, lits[:286], dists); e != api.OK {
		t.Error(e)
	}
	if e := deflate.Lengths(w, lits, dists); e != api.ErrArg {
		t.Error(e)
	}
	for _, own := range both {
		if e := deflate.Coded(w, []api.Token{byteOf('a'), piece(3, 1)}, own, true); e != api.OK {
			t.Error(e)
		}
		if e := deflate.Coded(w, []api.Token{{Len: 2}}, own, true); e != api.ErrArg {
			t.Error(e)
		}
	}
}

func TestManyAtATime(t *testing.T) {
	s := texts()[10]
	whole, segment := check(t, "", s)
	l := lz.Pack("", s)
	wrong := make([]int, 8)
	var all sync.WaitGroup
	for i := range wrong {
		all.Go(func() {
			for range 3 {
				var w bitio.Writer
				e := deflate.Coded(&w, l, true, true)
				if u, _, f := inflate.Whole("", w.String(), len(s)); u != s || e != api.OK || f != api.OK || deflate.Whole("", s) != whole || deflate.Segment("", s) != segment {
					wrong[i]++
				}
			}
		})
	}
	all.Wait()
	if !slices.Equal(wrong, make([]int, 8)) {
		t.Error(wrong)
	}
}

func BenchmarkWhole(b *testing.B) {
	s := strings.Join(texts(), "")
	b.SetBytes(int64(len(s)))
	for b.Loop() {
		deflate.Whole("", s)
	}
}

func BenchmarkSegmentOfAShortTextBehindAWholeWindow(b *testing.B) {
	window := texts()[10]
	for b.Loop() {
		deflate.Segment(window, "in the rain in the main")
	}
}

func FuzzAll(f *testing.F) {
	f.Add("", "", []byte{0, 0})
	f.Add("in the", "in the rain in the main", []byte{1, 2, 3, 255, 255})
	f.Add(strings.Repeat("the rain", 9000), strings.Repeat("the rain", 90), bytes.Repeat([]byte{5, 0}, 200))
	f.Fuzz(func(t *testing.T, window, s string, b []byte) {
		check(t, window, s)
		l := make([]int, 316)
		for i := range min(len(b), len(l)) {
			l[i] = int(b[i] % 16)
		}
		lits := 257 + len(b)%30
		checkLengths(t, l[:lits], l[286:287+len(s)%30])
	})
}

// The layer stands on api, bitio, huffman, lz, symbols and inflate alone: so it can ask no clock, no chance, no file and no network.
func TestSourceStandsOnThoseBelowAlone(t *testing.T) {
	src, err := os.ReadFile("deflate.go")
	if err != nil {
		t.Fatal(err)
	}
	f, err := parser.ParseFile(token.NewFileSet(), "deflate.go", src, parser.ImportsOnly)
	if err != nil {
		t.Fatal(err)
	}
	for _, i := range f.Imports {
		if !slices.Contains([]string{`"cmp"`, `"slices"`, `"mirador/api"`, `"mirador/bitio"`, `"mirador/huffman"`, `"mirador/inflate"`, `"mirador/lz"`, `"mirador/symbols"`}, i.Path.Value) {
			t.Errorf("import of %s", i.Path.Value)
		}
	}
	if tidy, err := format.Source(src); err != nil || string(tidy) != string(src) {
		t.Errorf("not gofmt's layout: %v", err)
	}
}
