package inflate_test

import (
	"bytes"
	"compress/flate"
	"go/format"
	"go/parser"
	"go/token"
	"io"
	"math"
	"os"
	"slices"
	"strings"
	"sync"
	"testing"

	"mirador/api"
	"mirador/bitio"
	"mirador/huffman"
	"mirador/inflate"
	"mirador/lz"
	"mirador/symbols"
)

// order is the places of a header's own lengths, as DEFLATE's RFC has them.
var order = []int{16, 17, 18, 0, 8, 7, 9, 6, 10, 5, 11, 4, 12, 3, 13, 2, 14, 1, 15}

// chance answers numbers from 0 to n - 1, the same ones for every seed.
func chance(seed uint64) func(n int) int {
	return func(n int) int {
		seed = seed*6364136223846793005 + 1442695040888963407
		return int(seed>>33) % n
	}
}

// times is a list of n numbers that are alike.
func times(n, v int) []int { return slices.Repeat([]int{v}, n) }

// row is a list of n numbers of 0, but for these: place, number, place, number, ..
func row(n int, l ...int) []int {
	r := make([]int, n)
	for i := 0; i < len(l); i += 2 {
		r[l[i]] = l[i+1]
	}
	return r
}

func byteOf(b int) api.Token        { return api.Token{Byte: b} }
func piece(length, d int) api.Token { return api.Token{Len: length, Dist: d} }

// bitsOf is the bits of a text, as 0s and 1s.
func bitsOf(s string) string {
	var b strings.Builder
	for i := range len(s) {
		for k := range 8 {
			b.WriteByte('0' + s[i]>>k&1)
		}
	}
	return b.String()
}

// packed is a text of 0s and 1s as bytes, and bits of 0 till a byte is whole.
func packed(bits string) string {
	b := make([]byte, (len(bits)+7)/8)
	for i := range len(bits) {
		b[i/8] |= (bits[i] - '0') << (i % 8)
	}
	return string(b)
}

// readerOf is a reader of just these bits, behind others that make a byte whole, and how many those are.
func readerOf(bits string) (*bitio.Reader, int) {
	start := (8 - len(bits)%8) % 8
	r := bitio.New(packed(strings.Repeat("1", start) + bits))
	r.Bits(start)
	return r, start
}

// low is n bits of a number as 0s and 1s, the lowest one first.
func low(v, n int) string {
	b := make([]byte, n)
	for i := range b {
		b[i] = byte('0' + v>>i&1)
	}
	return string(b)
}

// words are codes of lengths as texts of 0s and 1s, the greatest bit first.
func words(lens []int) []string {
	codes, _ := huffman.Codes(lens)
	l := make([]string, len(codes))
	for i, c := range codes {
		b := []byte(low(c.Bits, c.Len))
		slices.Reverse(b)
		l[i] = string(b)
	}
	return l
}

// source is a text of 0s and 1s that is read by the chapter's rules, in their order; it is as long as it is said, and the bytes end where it does.
type source struct {
	bits string
	at   int
}

// take is a number of so many bits, the lowest one first.
func (s *source) take(n int) (int, api.Errno) {
	if n > len(s.bits)-s.at {
		return 0, api.ErrMore
	}
	v := 0
	for i := range n {
		v |= int(s.bits[s.at+i]-'0') << i
	}
	s.at += n
	return v, api.OK
}

// symbol is the next symbol of codes.
func (s *source) symbol(l []string) (int, api.Errno) {
	for from := s.at; ; s.at++ {
		begun := false
		for sym, w := range l {
			if w != "" && w == s.bits[from:s.at] {
				return sym, api.OK
			}
			begun = begun || w != "" && strings.HasPrefix(w, s.bits[from:s.at])
		}
		switch {
		case !begun:
			return 0, api.ErrBlock
		case s.at == len(s.bits):
			return 0, api.ErrMore
		}
	}
}

// header is the rule for Header.
func (s *source) header() (lits, dists []int, e api.Errno) {
	var n [3]int
	for i, bits := range []int{5, 5, 4} {
		if n[i], e = s.take(bits); e != api.OK {
			return nil, nil, e
		}
	}
	lit, dist := 257+n[0], 1+n[1]
	if lit > 286 || dist > 30 {
		return nil, nil, api.ErrBlock
	}
	lens := make([]int, 19)
	for _, at := range order[:4+n[2]] {
		if lens[at], e = s.take(3); e != api.OK {
			return nil, nil, e
		}
	}
	if _, e := huffman.Check(lens); e != api.OK {
		return nil, nil, api.ErrBlock
	}
	all, e := s.rows(words(lens), lit+dist)
	if e != api.OK {
		return nil, nil, e
	}
	return all[:lit], all[lit:], api.OK
}

// rows are so many lengths, by these codes.
func (s *source) rows(codes []string, many int) ([]int, api.Errno) {
	var all []int
	for len(all) < many {
		sym, e := s.symbol(codes)
		if e != api.OK {
			return nil, e
		}
		if sym == 16 && len(all) == 0 {
			return nil, api.ErrBlock
		}
		one, least, bits := sym, 1, 0
		switch sym {
		case 16:
			one, least, bits = all[len(all)-1], 3, 2
		case 17:
			one, least, bits = 0, 3, 3
		case 18:
			one, least, bits = 0, 11, 7
		}
		more, e := s.take(bits)
		if e != api.OK {
			return nil, e
		}
		all = append(all, times(least+more, one)...)
	}
	if len(all) > many {
		return nil, api.ErrBlock
	}
	return all, api.OK
}

// one is what a block is.
type one struct {
	text string
	last bool
	kind int
}

// block is the rule for Block; the first bit of bits stands at a byte's beginning, if start is 0.
func (s *source) block(window string, most, start int) (one, api.Errno) {
	last, e := s.take(1)
	if e != api.OK {
		return one{}, e
	}
	kind, e := s.take(2)
	if e != api.OK {
		return one{}, e
	}
	var made string
	switch kind {
	case 0:
		made, e = s.stored(most, start)
	case 1:
		lits, dists := symbols.Fixed()
		made, e = s.coded(lits, dists, window, most)
	case 2:
		var lits, dists []int
		if lits, dists, e = s.header(); e == api.OK {
			made, e = s.coded(lits, dists, window, most)
		}
	default:
		e = api.ErrBlock
	}
	if e != api.OK {
		return one{}, e
	}
	return one{made, last == 1, kind}, api.OK
}

func (s *source) stored(most, start int) (string, api.Errno) {
	for (start+s.at)%8 != 0 {
		s.at++
	}
	var b [4]int
	for i := range b {
		var e api.Errno
		if b[i], e = s.take(8); e != api.OK {
			return "", e
		}
	}
	n := b[0] + 256*b[1]
	switch {
	case b[0]+b[2] != 255 || b[1]+b[3] != 255:
		return "", api.ErrBlock
	case n > most:
		return "", api.ErrLarge
	case 8*n > len(s.bits)-s.at:
		return "", api.ErrMore
	}
	s.at += 8 * n
	return packed(s.bits[s.at-8*n : s.at]), api.OK
}

// coded stands on symbols and lz, which have tests of their own.
func (s *source) coded(lits, dists []int, window string, most int) (string, api.Errno) {
	r, start := readerOf(s.bits[s.at:])
	l, e := symbols.Read(r, lits, dists, most)
	s.at += r.At() - start
	switch {
	case e == api.ErrLengths || e == api.ErrBad:
		return "", api.ErrBlock
	case e != api.OK:
		return "", e
	case most < 0:
		return "", api.ErrLarge
	}
	return lz.Expand(window, l)
}

// whole is the rule for Whole.
func whole(window, s string, most int) (string, int, api.Errno) {
	from := &source{bits: bitsOf(s)}
	made := ""
	for {
		b, e := from.block(window+made, most-len(made), 0)
		if e != api.OK {
			return "", 0, e
		}
		made += b.text
		if b.last {
			return made, (from.at + 7) / 8, api.OK
		}
	}
}

// segment is the rule for Segment.
func segment(window, s string, most int) (string, api.Errno) {
	from := &source{bits: bitsOf(s)}
	made := ""
	b := one{kind: -1}
	for from.at < len(from.bits) {
		var e api.Errno
		if b, e = from.block(window+made, most-len(made), 0); e != api.OK {
			return "", e
		}
		if b.last {
			return "", api.ErrFinal
		}
		made += b.text
	}
	if b.kind != 0 || b.text != "" {
		return "", api.ErrFinal
	}
	return made, api.OK
}

// run is a symbol of a header, and its extra bits as a number.
type run struct{ sym, extra int }

// full is codes of a header that leave no room: of all symbols.
var full = slices.Concat(times(13, 4), times(6, 5))

// headerOf is a header's bits, with codes of its own of these lengths, of which many are told.
func headerOf(lit, dist, many int, lens []int, l ...run) string {
	s := low(lit-257, 5) + low(dist-1, 5) + low(many-4, 4)
	for _, at := range order[:many] {
		s += low(lens[at], 3)
	}
	codes := words(lens)
	for _, x := range l {
		s += codes[x.sym] + low(x.extra, []int{2, 3, 7, 0}[min(uint(x.sym-16), 3)])
	}
	return s
}

// plainRuns tell each length by itself.
func plainRuns(lens ...int) []run {
	l := make([]run, len(lens))
	for i, n := range lens {
		l[i].sym = n
	}
	return l
}

// ownHeader is a header's bits of any lengths.
func ownHeader(lits, dists []int) string {
	return headerOf(len(lits), len(dists), 19, full, plainRuns(slices.Concat(lits, dists)...)...)
}

// tokensOf are tokens' bits by codes that have all of their symbols.
func tokensOf(lits, dists []int, l ...api.Token) string {
	var w bitio.Writer
	if e := symbols.Write(&w, lits, dists, l); e != api.OK {
		panic(e)
	}
	return bitsOf(w.String())[:w.Len()]
}

func fixedBlock(last int, l ...api.Token) string {
	lits, dists := symbols.Fixed()
	return low(last, 1) + "10" + tokensOf(lits, dists, l...)
}

func ownBlock(last int, lits, dists []int, l ...api.Token) string {
	return low(last, 1) + "01" + ownHeader(lits, dists) + tokensOf(lits, dists, l...)
}

// storedBlock stands behind so many bits.
func storedBlock(at, last int, s string) string {
	return low(last, 1) + "00" + strings.Repeat("0", (16-(at+3)%8)%8) + low(len(s), 16) + low(^len(s), 16) + bitsOf(s)
}

// best are the best lengths for tokens, as many as a header may have.
func best(l []api.Token) (lits, dists []int) {
	a, b := symbols.Count(l)
	lits, _ = huffman.Lengths(a, 15)
	dists, _ = huffman.Lengths(b, 15)
	return lits, dists
}

// texts are ones of several kinds.
func texts() []string {
	pick := chance(2)
	any := make([]byte, 70000)
	for i := range any {
		any[i] = byte(pick(256))
	}
	few := make([]byte, 50000)
	for i := range few {
		few[i] = "aaab"[pick(4)] + byte(pick(1<<pick(4)))
	}
	return []string{
		"", "a", "ab", "in the rain in the main", strings.Repeat("x", 3), strings.Repeat("x", 100000), strings.Repeat("the rain ", 9000), string(any), string(few), string(any[:32768]) + string(any[:40000]), string(any[:300]) + string(few[:300]) + string(any[:300]),
		"\x00\x00\xff\xff", strings.Repeat("\x00\x00\xff\xff", 3), strings.Repeat("\x00", 65536), string(any[:65535]), string(any[:65536]),
	}
}

// deflated is what the library makes of texts, each but the last one flushed; it is closed or not.
func deflated(level int, window string, end bool, l ...string) string {
	var b bytes.Buffer
	w, err := flate.NewWriterDict(&b, level, []byte(window))
	if err != nil {
		panic(err)
	}
	for i, s := range l {
		io.WriteString(w, s)
		if i < len(l)-1 || !end {
			w.Flush()
		}
	}
	if end {
		w.Close()
	}
	return b.String()
}

var levels = []int{flate.HuffmanOnly, flate.NoCompression, 1, 2, 3, 5, 6, 9}

func TestExamples(t *testing.T) {
	if s, n, e := inflate.Whole("", "\x01\x03\x00\xfc\xffabc", 100); s != "abc" || n != 8 || e != api.OK {
		t.Errorf("%q, %d, %v", s, n, e)
	}
	if s, n, e := inflate.Whole("", "\x4b\x4c\x04\x00", 100); s != "aa" || n != 4 || e != api.OK {
		t.Errorf("%q, %d, %v", s, n, e)
	}
}

func TestOrder(t *testing.T) {
	l := inflate.Order()
	if !slices.Equal(l, order) || cap(l) != len(l) {
		t.Error(l, cap(l))
	}
	clear(l)
	if l := inflate.Order(); !slices.Equal(l, order) {
		t.Error("an answer is shared with another one")
	}
}

// checkHeader holds one call against the rule, with other bits behind the header, too.
func checkHeader(t *testing.T, bits string) ([]int, []int, api.Errno) {
	t.Helper()
	for _, behind := range []string{"1", ""} {
		from := &source{bits: bits + behind}
		wantLits, wantDists, want := from.header()
		r, start := readerOf(from.bits)
		lits, dists, e := inflate.Header(r)
		if e != want || !slices.Equal(lits, wantLits) || !slices.Equal(dists, wantDists) || cap(lits) != len(lits) || cap(dists) != len(dists) {
			t.Fatalf("Header of %s: %v, %v, %v; want %v, %v, %v", from.bits, lits, dists, e, wantLits, wantDists, want)
		}
		if e != api.ErrMore && (r.At()-start != from.at || r.Err() != api.OK) || e == api.ErrMore && r.Err() != api.ErrMore {
			t.Fatalf("Header of %s: %v, %d bits passed, %v; want %d", from.bits, e, r.At()-start, r.Err(), from.at)
		}
		if behind == "" {
			return lits, dists, e
		}
	}
	return nil, nil, api.OK
}

func TestHeaderByHand(t *testing.T) {
	zeros, ones := run{18, 127}, run{1, 0} // 138 lengths of 0, and one of 1
	for i, x := range []struct {
		bits        string
		lits, dists []int
		e           api.Errno
	}{
		{headerOf(257, 1, 19, full, zeros, run{18, 107}, ones, ones), row(257, 256, 1), []int{1}, api.OK},
		{headerOf(257, 1, 19, full, zeros, run{18, 108}, ones), row(257), []int{1}, api.OK},
		{headerOf(257, 1, 19, full, zeros, run{18, 109}), row(257), []int{0}, api.OK},
		// The runs go from the literals into the distances.
		{headerOf(257, 4, 19, full, zeros, run{18, 107}, ones, run{16, 1}), row(257, 256, 1), times(4, 1), api.OK},
		{headerOf(257, 30, 19, full, zeros, run{18, 107}, run{15, 0}, run{17, 7}, run{16, 3}, run{16, 3}, run{16, 0}, run{0, 0}, run{2, 0}, run{3, 0}, run{4, 0}, run{5, 0}), row(257, 256, 15), row(30, 26, 2, 27, 3, 28, 4, 29, 5), api.OK},
		{headerOf(286, 30, 19, full, append([]run{{5, 0}}, slices.Repeat([]run{{16, 3}}, 52)...)...), nil, nil, api.ErrMore},
		{headerOf(286, 30, 19, full, append([]run{{5, 0}, {16, 0}}, slices.Repeat([]run{{16, 3}}, 52)...)...), times(286, 5), times(30, 5), api.OK},
		{headerOf(286, 29, 19, full, append([]run{{5, 0}, {16, 0}}, slices.Repeat([]run{{16, 3}}, 52)...)...), nil, nil, api.ErrBlock},
		{headerOf(285, 30, 19, full, append([]run{{5, 0}, {16, 0}}, slices.Repeat([]run{{16, 3}}, 52)...)...), nil, nil, api.ErrBlock},
		{headerOf(260, 5, 19, full, plainRuns(times(265, 12)...)...), times(260, 12), times(5, 12), api.OK},
		// What 16 says again is the last length, be it told by itself, or by a run.
		{headerOf(257, 6, 19, full, zeros, run{18, 107}, run{16, 0}, run{7, 0}, run{16, 0}), row(257), []int{0, 0, 7, 7, 7, 7}, api.OK},
		{headerOf(257, 3, 19, full, run{7, 0}, zeros, run{18, 101}, run{17, 0}, run{16, 0}, run{16, 0}), row(257, 0, 7), row(3), api.OK},
		// Four numbers of three bits are told at least: of 16, 17, 18 and 0.
		{headerOf(257, 3, 4, row(19, 18, 1, 0, 1), zeros, run{18, 109}, run{0, 0}, run{0, 0}), row(257), row(3), api.OK},
		{headerOf(257, 3, 4, row(19, 18, 1, 0, 2, 16, 3, 17, 3), run{0, 0}, run{16, 3}, run{17, 7}, run{18, 0}, zeros, run{18, 83}), row(257), row(3), api.OK},
		{headerOf(257, 1, 5, row(19, 18, 1, 8, 1), run{8, 0}, run{18, 126}, run{18, 107}, run{8, 0}, run{8, 0}), row(257, 0, 8, 256, 8), []int{8}, api.OK},
		// A code of one symbol alone, with room for others that no code begins with.
		{headerOf(257, 1, 19, row(19, 1, 1), plainRuns(times(258, 1)...)...), times(257, 1), []int{1}, api.OK},
		{headerOf(257, 1, 19, row(19, 1, 1), plainRuns(times(100, 1)...)...) + "1", nil, nil, api.ErrBlock},
		{headerOf(257, 1, 19, row(19, 1, 7), plainRuns(times(258, 1)...)...), times(257, 1), []int{1}, api.OK},
		// More lengths than there are to be, by one, of each kind.
		{headerOf(257, 1, 19, full, zeros, run{18, 110}), nil, nil, api.ErrBlock}, {headerOf(257, 1, 19, full, zeros, run{18, 127}), nil, nil, api.ErrBlock},
		{headerOf(257, 1, 19, full, zeros, run{18, 107}, run{17, 0}), nil, nil, api.ErrBlock}, {headerOf(257, 1, 19, full, zeros, run{18, 107}, run{16, 0}), nil, nil, api.ErrBlock}, {headerOf(257, 1, 19, full, zeros, run{18, 106}, run{17, 0}), row(257), []int{0}, api.OK},
		{headerOf(257, 1, 19, full, zeros, run{18, 106}, run{16, 0}), row(257), []int{0}, api.OK}, {headerOf(257, 1, 19, full, zeros, run{18, 106}, run{16, 1}), nil, nil, api.ErrBlock},
		// 16 at the beginning has nothing to say again; its extra bits are not asked for.
		{headerOf(257, 1, 19, full, run{16, 0}), nil, nil, api.ErrBlock}, {headerOf(257, 1, 19, full) + words(full)[16], nil, nil, api.ErrBlock}, {headerOf(257, 1, 19, full) + words(full)[17], nil, nil, api.ErrMore}, {headerOf(257, 1, 19, full) + words(full)[18], nil, nil, api.ErrMore},
		{headerOf(257, 1, 19, full, ones) + words(full)[16] + "1", nil, nil, api.ErrMore}, {headerOf(257, 1, 19, full, zeros, zeros), nil, nil, api.ErrBlock}, {headerOf(257, 1, 19, full, zeros) + words(full)[18] + "111111", nil, nil, api.ErrMore},
		// Codes of a header that can't be, or are none at all.
		{headerOf(257, 1, 19, times(19, 4)) + "0000", nil, nil, api.ErrBlock}, {headerOf(257, 1, 4, row(19, 16, 1, 17, 1, 18, 7)), nil, nil, api.ErrBlock}, {headerOf(257, 1, 19, row(19)), nil, nil, api.ErrBlock}, {headerOf(257, 1, 4, row(19)), nil, nil, api.ErrBlock},
		// Too many are found ahead of the numbers of three bits, but behind all three counts.
		{low(29, 5) + low(29, 5) + low(0, 4), nil, nil, api.ErrMore}, {low(30, 5) + low(29, 5) + low(0, 4), nil, nil, api.ErrBlock}, {low(31, 5) + low(0, 5) + low(15, 4), nil, nil, api.ErrBlock}, {low(29, 5) + low(30, 5) + low(0, 4), nil, nil, api.ErrBlock},
		{low(0, 5) + low(31, 5) + low(0, 4), nil, nil, api.ErrBlock}, {low(31, 5) + low(31, 5) + low(15, 4), nil, nil, api.ErrBlock}, {low(31, 5) + low(31, 5) + low(7, 3), nil, nil, api.ErrMore}, {low(31, 5) + low(0, 4), nil, nil, api.ErrMore}, {low(31, 5), nil, nil, api.ErrMore}, {"1111", nil, nil, api.ErrMore}, {"", nil, nil, api.ErrMore},
	} {
		from := &source{bits: x.bits}
		if lits, dists, e := from.header(); e != x.e || !slices.Equal(lits, x.lits) || !slices.Equal(dists, x.dists) {
			t.Errorf("%d: the rule has %v, %v, %v; want %v, %v, %v", i, lits, dists, e, x.lits, x.dists, x.e)
		}
		checkHeader(t, x.bits)
	}
}

func TestHeaderOfAnyBits(t *testing.T) {
	pick := chance(4)
	for range 2000 {
		// Counts that may be, so that more than a few go on.
		bits := low(pick(30), 5) + low(pick(30), 5) + low(pick(16), 4)
		for range pick(800) {
			bits += low(pick(2), 1)
		}
		checkHeader(t, bits)
		// Codes that can be, and any runs.
		lens, _ := huffman.Lengths(slices.Concat(times(16, pick(2)), []int{1, pick(2), pick(3)}), 7)
		lit, dist := 257+pick(30), 1+pick(30)
		l := plainRuns(slices.Repeat([]int{pick(16)}, min(1, 19*lens[1]))...)
		for range pick(400) {
			if sym := pick(19); lens[sym] > 0 {
				l = append(l, run{sym, pick(128)})
			}
		}
		checkHeader(t, headerOf(lit, dist, 19, lens, l...))
	}
}

func TestHeaderOfWhatIsCutOff(t *testing.T) {
	pick := chance(5)
	for range 3 {
		lens := make([]int, 257+pick(30)+1)
		for i := range lens {
			lens[i] = pick(16)
		}
		dist := 1 + pick(30)
		bits := headerOf(len(lens)-1, dist, 19, full, append(plainRuns(lens...), slices.Repeat([]run{{16, pick(4)}, {17, pick(8)}, {0, 0}, {18, pick(128)}}, 9)...)...)
		for cut := range len(bits) + 1 {
			checkHeader(t, bits[:cut])
		}
	}
	lits, dists := best(lz.Pack("", texts()[3]))
	bits := ownHeader(lits, dists)
	for cut := range len(bits) {
		if _, _, e := checkHeader(t, bits[:cut]); e != api.ErrMore {
			t.Fatalf("Header of %d bits of %d: %v", cut, len(bits), e)
		}
	}
	if a, b, e := checkHeader(t, bits); e != api.OK || !slices.Equal(a, lits) || !slices.Equal(b, dists) {
		t.Errorf("%v, %v, %v", a, b, e)
	}
}

func TestRowsShareNothing(t *testing.T) {
	bits := ownHeader(times(257, 9), times(3, 2))
	for range 2 {
		r, _ := readerOf(bits)
		lits, dists, _ := inflate.Header(r)
		lits = append(lits, -1, -1, -1)
		if !slices.Equal(dists, times(3, 2)) {
			t.Error("the one row goes on into the other one", dists)
		}
		clear(lits)
		clear(dists)
	}
}

// starts are how many bits stand ahead of a block.
var starts = []int{0, 1, 4, 5, 6, 7}

// checkBlock holds one call against the rule; bits stand behind start other ones.
func checkBlock(t *testing.T, bits, window string, most, start int) (one, api.Errno) {
	t.Helper()
	bits = bits[:len(bits)-min((start+len(bits))%8, len(bits))]
	from := &source{bits: bits}
	want, fault := from.block(window, most, start)
	r := bitio.New(packed(strings.Repeat("1", start) + bits))
	r.Bits(start)
	s, last, e := inflate.Block(r, window, most)
	if e != fault || s != want.text || last != want.last {
		t.Fatalf("Block of %.300s up to %d: %.60q, %v, %v; want %.60q, %v, %v", bits, most, s, last, e, want.text, want.last, fault)
	}
	if e == api.OK && (r.At() != start+from.at || r.Err() != api.OK) || e == api.ErrMore && r.Err() != api.ErrMore {
		t.Fatalf("Block of %.300s up to %d: %v, %d bits passed, %v; want %d", bits, most, e, r.At()-start, r.Err(), from.at)
	}
	return want, fault
}

func TestBlockByHand(t *testing.T) {
	a := byteOf('a')
	lits, dists := symbols.Fixed()
	with := func(l []int, sym, n int) []int {
		l = slices.Clone(l)
		l[sym] = n
		return l
	}
	small := row(257, 'a', 1, 256, 1)
	pieces := row(258, 'a', 2, 256, 2, 257, 1)
	for i, x := range []struct {
		bits, window string
		most         int
		want         string
		e            api.Errno
	}{
		{fixedBlock(0), "", 0, "", api.OK}, {fixedBlock(0, a), "", 1, "a", api.OK}, {fixedBlock(0, a), "", 0, "", api.ErrLarge}, {fixedBlock(0, a, piece(258, 1)), "", 259, strings.Repeat("a", 259), api.OK}, {fixedBlock(0, a, piece(258, 1)), "", 258, "", api.ErrLarge},
		{fixedBlock(0, piece(4, 2)), "ab", 4, "abab", api.OK}, {fixedBlock(0, piece(4, 3)), "ab", 4, "", api.ErrDistance}, {fixedBlock(0, a, piece(4, 3)), "bc", 5, "abcab", api.OK}, {fixedBlock(0, a, piece(4, 4)), "bc", 5, "", api.ErrDistance},
		{fixedBlock(0, piece(3, 32768)), strings.Repeat("ab", 16384), 3, "aba", api.OK}, {fixedBlock(0, piece(3, 32768)), strings.Repeat("ab", 16384)[1:], 3, "", api.ErrDistance}, {fixedBlock(0, piece(3, 32768)), "a" + strings.Repeat("ab", 16384), 3, "aba", api.OK},
		// No bytes are too many where fewer than none may be.
		{fixedBlock(0), "", -1, "", api.ErrLarge}, {fixedBlock(0, a), "", -1, "", api.ErrLarge}, {fixedBlock(0), "", math.MinInt, "", api.ErrLarge}, {fixedBlock(0), "", math.MaxInt, "", api.OK}, {ownBlock(0, small, []int{0}), "", -1, "", api.ErrLarge},
		// Codes of one's own, also ones that leave room, or have a distance alone or none.
		{ownBlock(0, small, []int{0}), "", 0, "", api.OK}, {ownBlock(0, small, []int{0}, a, a), "", 2, "aa", api.OK}, {ownBlock(0, small, []int{0}, a, a), "", 1, "", api.ErrLarge}, {ownBlock(0, row(257, 256, 1), []int{0}), "", 0, "", api.OK}, {ownBlock(0, row(257, 256, 15), times(30, 15)), "", 0, "", api.OK},
		{ownBlock(0, pieces, []int{1}, a, piece(3, 1)), "", 4, "aaaa", api.OK}, {ownBlock(0, pieces, []int{1}, piece(3, 1)), "", 4, "", api.ErrDistance}, {ownBlock(0, pieces, []int{1}, piece(3, 1)), "b", 4, "bbb", api.OK}, {ownBlock(0, times(286, 9), times(30, 5), a, piece(258, 32768)), strings.Repeat("b", 32768), 259, "a" + strings.Repeat("b", 258), api.OK},
		{"001" + ownHeader(small, []int{0}) + "0000", "", 9, "", api.ErrMore}, {"001" + ownHeader(row(257, 'a', 1), []int{0}) + "0001", "", 9, "", api.ErrBlock}, {"001" + ownHeader(row(257), []int{0}) + "0001", "", 9, "", api.ErrBlock}, {"001" + ownHeader(pieces, []int{0}) + "0", "", 9, "", api.ErrBlock},
		{"001" + ownHeader(pieces, []int{1}) + "01", "", 9, "", api.ErrBlock}, {"001" + ownHeader(pieces, []int{1}) + "0", "", 9, "", api.ErrMore},
		// Rows that can't be are found ahead of what stands behind them.
		{"001" + ownHeader(with(small, 7, 1), []int{0}), "", 9, "", api.ErrBlock}, {"001" + ownHeader(small, []int{1, 1, 1}), "", 9, "", api.ErrBlock}, {"001" + ownHeader(small, []int{1, 1}), "", 9, "", api.ErrMore}, {"001" + low(30, 5) + low(0, 9), "", 9, "", api.ErrBlock}, {"001" + low(29, 5) + low(0, 9), "", 9, "", api.ErrMore},
		// Symbols that stand for nothing.
		{"010" + words(lits)[286], "", 9, "", api.ErrBlock}, {"010" + words(lits)[287], "", 9, "", api.ErrBlock}, {"010" + words(lits)[257] + "11110", "", 9, "", api.ErrBlock}, {"010" + words(lits)[257] + "11111", "", 9, "", api.ErrBlock},
		// What is too much, or missing, is found ahead of a distance that goes too far back.
		{fixedBlock(0, piece(3, 1), a), "", 3, "", api.ErrLarge}, {"010" + tokensOf(lits, dists, piece(3, 1))[:12], "", 3, "", api.ErrMore}, {"010" + tokensOf(lits, dists, piece(3, 1))[:12] + words(lits)[287], "", 3, "", api.ErrBlock},
		{"0", "", 9, "", api.ErrMore}, {"11", "", 9, "", api.ErrMore}, {"", "", 9, "", api.ErrMore}, {"010", "", 9, "", api.ErrMore}, {"001", "", 9, "", api.ErrMore}, {"011", "", 9, "", api.ErrBlock}, {"111", "", 9, "", api.ErrBlock}, {"111", "", -1, "", api.ErrBlock},
	} {
		for last := range min(2, len(x.bits)) {
			bits := low(last, 1) + x.bits[1:]
			r, start := readerOf(bits)
			s, l, e := inflate.Block(r, x.window, x.most)
			if s != x.want || l != (last == 1 && e == api.OK) || e != x.e || e == api.OK && (r.Left() != 0 || r.Err() != api.OK) {
				t.Errorf("%d: Block of %.200s: %q, %v, %v, %d bits left; want %q, %v", i, bits, s, l, e, r.Left(), x.want, x.e)
			}
			checkBlock(t, bits, x.window, x.most, start)
		}
	}
}

func TestBlockOfBytesByHand(t *testing.T) {
	for i, x := range []struct {
		number, turned int
		text           string
		most           int
		want           string
		e              api.Errno
	}{
		{0, 65535, "", 0, "", api.OK}, {1, 65534, "a", 1, "a", api.OK}, {1, 65534, "ab", 1, "a", api.OK}, {3, 65532, "a\x00\xff", math.MaxInt, "a\x00\xff", api.OK}, {256, 65279, strings.Repeat("xy", 128), 256, strings.Repeat("xy", 128), api.OK}, {65535, 0, strings.Repeat("x", 65535), 65535, strings.Repeat("x", 65535), api.OK},
		{1, 65534, "", 1, "", api.ErrMore}, {3, 65532, "ab", 3, "", api.ErrMore}, {65535, 0, strings.Repeat("x", 65534), 65535, "", api.ErrMore},
		{1, 65534, "a", 0, "", api.ErrLarge}, {65535, 0, "", 65534, "", api.ErrLarge}, {0, 65535, "", -1, "", api.ErrLarge}, {0, 65535, "", math.MinInt, "", api.ErrLarge}, {1, 65534, "", 0, "", api.ErrLarge},
		{0, 65534, "", 9, "", api.ErrBlock}, {0, 0, "", 9, "", api.ErrBlock}, {1, 65535, "a", 9, "", api.ErrBlock}, {1, 1, "a", 9, "", api.ErrBlock}, {1, 0xff7e, "a", 9, "", api.ErrBlock}, {65535, 65535, "", 0, "", api.ErrBlock}, {65535, 1, "", 0, "", api.ErrBlock}, {9, 9, "", 0, "", api.ErrBlock}, {0x0100, 0xfffe, "a", 9, "", api.ErrBlock},
	} {
		for _, start := range starts {
			for last := range 2 {
				// What is passed up to a whole byte may be anything.
				bits := low(last, 1) + "00" + strings.Repeat("1", (16-(start+3)%8)%8) + low(x.number, 16) + low(x.turned, 16) + bitsOf(x.text)
				b, e := checkBlock(t, bits, "window", x.most, start)
				if b.text != x.want || b.last != (last == 1 && e == api.OK) || e != x.e {
					t.Errorf("%d: %.60q, %v, %v; want %.60q, %v", i, b.text, b.last, e, x.want, x.e)
				}
			}
		}
	}
	for _, start := range starts {
		bits := storedBlock(start, 0, "ab")
		for cut := range len(bits) {
			if _, e := checkBlock(t, bits[:cut], "", 9, start); e != api.ErrMore {
				t.Errorf("of %d bits: %v", cut, e)
			}
		}
	}
}

func TestBlockOfWhatIsCutOff(t *testing.T) {
	l := lz.Pack("", "in the rain in the main")
	lits, dists := best(l)
	for _, bits := range []string{fixedBlock(1, l...), ownBlock(1, lits, dists, l...)} {
		for cut := range len(bits) {
			r, start := readerOf(bits[:cut])
			if s, last, e := inflate.Block(r, "", 99); s != "" || last || e != api.ErrMore || r.Err() != api.ErrMore {
				t.Fatalf("of %d bits of %d: %q, %v, %v", cut, len(bits), s, last, e)
			}
			checkBlock(t, bits[:cut], "", 99, start)
		}
	}
}

// checkAll holds Whole and Segment against their rules.
func checkAll(t *testing.T, window, s string, most int) {
	t.Helper()
	want, wantBegun, fault := whole(window, s, most)
	if u, n, e := inflate.Whole(window, s, most); u != want || n != wantBegun || e != fault {
		t.Fatalf("Whole of %.60q up to %d: %.60q, %d, %v; want %.60q, %d, %v", s, most, u, n, e, want, wantBegun, fault)
	}
	want, fault = segment(window, s, most)
	if u, e := inflate.Segment(window, s, most); u != want || e != fault {
		t.Fatalf("Segment of %.60q up to %d: %.60q, %v; want %.60q, %v", s, most, u, e, want, fault)
	}
}

func TestWholeByHand(t *testing.T) {
	a := byteOf('a')
	two := fixedBlock(0, a) + fixedBlock(1, piece(3, 1))
	mixed := storedBlock(0, 0, "ab")
	mixed += fixedBlock(0, piece(4, 2), byteOf('c'))
	lits, dists := best([]api.Token{piece(7, 7), byteOf('d')})
	mixed += ownBlock(0, lits, dists, piece(7, 7), byteOf('d'))
	mixed += storedBlock(len(mixed), 1, "ef")
	for i, x := range []struct {
		window, bits string
		most         int
		want         string
		e            api.Errno
	}{
		{"", two, 4, "aaaa", api.OK}, {"", two, 3, "", api.ErrLarge}, {"", two, 0, "", api.ErrLarge}, {"", mixed, 17, "abababcabababcdef", api.OK}, {"", mixed, 16, "", api.ErrLarge}, {"", mixed, 14, "", api.ErrLarge}, {"", mixed, 2, "", api.ErrLarge}, {"", mixed, -1, "", api.ErrLarge},
		{"", fixedBlock(1), 0, "", api.OK}, {"", fixedBlock(0) + fixedBlock(0) + fixedBlock(1), 0, "", api.OK}, {"", storedBlock(0, 1, ""), 0, "", api.OK}, {"", storedBlock(0, 1, "") + "1111", 0, "", api.OK}, {"", fixedBlock(0), 0, "", api.ErrMore}, {"", storedBlock(0, 0, "a"), 9, "", api.ErrMore},
		// A window is what came ahead of each block, with what the blocks ahead made.
		{"b", fixedBlock(0, a) + fixedBlock(1, piece(3, 2)), 4, "abab", api.OK}, {"", fixedBlock(0, a) + fixedBlock(1, piece(3, 2)), 4, "", api.ErrDistance}, {"b", fixedBlock(0, a) + fixedBlock(1, piece(3, 3)), 4, "", api.ErrDistance},
		{strings.Repeat("xy", 20000), fixedBlock(0, a) + fixedBlock(1, piece(3, 32768)), 4, "a" + "yxy", api.OK}, {"z" + strings.Repeat("xy", 16383) + "q", fixedBlock(0, a) + fixedBlock(1, piece(3, 32768)), 4, "axyx", api.OK},
		{strings.Repeat("x", 32766), fixedBlock(0, a) + fixedBlock(1, piece(3, 32768)), 4, "", api.ErrDistance},
		// An error ends it: what was made ahead is not told.
		{"", fixedBlock(0, a) + "111", 9, "", api.ErrBlock}, {"", fixedBlock(0, a) + fixedBlock(1, piece(3, 2)), 9, "", api.ErrDistance}, {"", fixedBlock(0, a) + "110" + "1111", 9, "", api.ErrMore},
	} {
		for _, behind := range []string{"", "1", "0000000", strings.Repeat("1", 30)} {
			if x.e == api.ErrMore && behind != "" {
				continue
			}
			s := packed(x.bits + behind)
			want, n := x.want, (len(x.bits)+7)/8
			if strings.HasPrefix(x.bits, storedBlock(0, 1, "")) {
				n = 5
			}
			if x.e != api.OK {
				n = 0
			}
			if u, begun, e := inflate.Whole(x.window, s, x.most); u != want || begun != n || e != x.e {
				t.Errorf("%d: %q, %d, %v; want %q, %d, %v", i, u, begun, e, want, n, x.e)
			}
			checkAll(t, x.window, s, x.most)
		}
	}
}

func TestSegmentByHand(t *testing.T) {
	a := byteOf('a')
	end := func(bits string) string { return bits + storedBlock(len(bits), 0, "") }
	eight := fixedBlock(0, byteOf(200), byteOf(200), byteOf(200), byteOf(200), byteOf(200), byteOf(200)) // it ends where a byte does
	lits, dists := best([]api.Token{a, a})
	for i, x := range []struct {
		window, bits string
		most         int
		want         string
		e            api.Errno
	}{
		{"", "", 9, "", api.ErrFinal}, {"", "", -1, "", api.ErrFinal}, {"", end(""), 0, "", api.OK}, {"", end(""), -1, "", api.ErrLarge}, {"", end(fixedBlock(0, a)), 1, "a", api.OK}, {"", end(fixedBlock(0, a)), 0, "", api.ErrLarge}, {"", end(ownBlock(0, lits, dists, a, a)), 2, "aa", api.OK},
		{"", end(end(fixedBlock(0, a)) + fixedBlock(0, piece(3, 1))), 4, "aaaa", api.OK}, {"", end(end(end(""))), 0, "", api.OK}, {"bc", end(end(fixedBlock(0, a)) + fixedBlock(0, piece(3, 3))), 4, "abca", api.OK}, {"bc", end(end(fixedBlock(0, a)) + fixedBlock(0, piece(3, 4))), 4, "", api.ErrDistance}, {"", end(end(fixedBlock(0, a)) + fixedBlock(0, piece(3, 1))), 3, "", api.ErrLarge},
		// None is the last one: it is found where it stands.
		{"", storedBlock(0, 1, ""), 9, "", api.ErrFinal}, {"", end(fixedBlock(1, a)), 9, "", api.ErrFinal}, {"", fixedBlock(1, a) + "111", 9, "", api.ErrFinal}, {"", end("") + storedBlock(0, 1, ""), 9, "", api.ErrFinal}, {"", fixedBlock(0, a) + fixedBlock(1), 9, "", api.ErrFinal}, {"", storedBlock(0, 1, "") + end(""), 9, "", api.ErrFinal},
		{"", "111", 9, "", api.ErrBlock}, {"", fixedBlock(1, piece(3, 1)), 9, "", api.ErrDistance}, {"", fixedBlock(1, a), 0, "", api.ErrLarge},
		// The end is an empty block of kind 0, of no other kind, and without bytes.
		{"", eight, 99, "", api.ErrFinal}, {"", end(eight), 99, strings.Repeat("\xc8", 6), api.OK}, {"", storedBlock(0, 0, "a"), 9, "", api.ErrFinal}, {"", storedBlock(0, 0, "\x00\x00\xff\xff"), 9, "", api.ErrFinal}, {"", end(storedBlock(0, 0, "\x00\x00\xff\xff")), 9, "\x00\x00\xff\xff", api.OK},
		{"", end("") + storedBlock(0, 0, "a"), 9, "", api.ErrFinal}, {"", end("") + eight, 99, "", api.ErrFinal},
		// Bits that are left, be they fewer than a byte has, begin a block.
		{"", fixedBlock(0, a), 9, "", api.ErrMore}, {"", fixedBlock(0), 9, "", api.ErrMore}, {"", fixedBlock(0) + "111111", 9, "", api.ErrBlock}, {"", end("") + "0", 9, "", api.ErrMore}, {"", end("")[:32], 9, "", api.ErrMore}, {"", end(fixedBlock(0, a))[:24], 9, "", api.ErrMore}, {"", end(fixedBlock(0, a))[:48], 9, "", api.ErrMore},
		{"", end("") + "00000000", 9, "", api.ErrMore}, {"", end("") + "01000000", 9, "", api.ErrMore}, {"", end("") + "01100000", 9, "", api.ErrBlock},
	} {
		if s, e := inflate.Segment(x.window, packed(x.bits), x.most); s != x.want || e != x.e {
			t.Errorf("%d: %q, %v; want %q, %v", i, s, e, x.want, x.e)
		}
		checkAll(t, x.window, packed(x.bits), x.most)
	}
}

func TestWhatTheLibraryWrites(t *testing.T) {
	for _, s := range texts() {
		for _, level := range levels {
			d := deflated(level, "", true, s)
			for _, behind := range []string{"", "\x00", "\xff\xff\xff\xff\xff\xff"} {
				for _, most := range []int{len(s), len(s) + 1, math.MaxInt} {
					if u, n, e := inflate.Whole("", d+behind, most); u != s || n != len(d) || e != api.OK {
						t.Fatalf("level %d, %d bytes: %d bytes, %d, %v", level, len(s), len(u), n, e)
					}
				}
			}
			if u, n, e := inflate.Whole("", d, len(s)-1); u != "" || n != 0 || e != api.ErrLarge {
				t.Fatalf("level %d, %d bytes: %d bytes, %d, %v", level, len(s), len(u), n, e)
			}
			if u, e := inflate.Segment("", d, len(s)); u != "" || e != api.ErrFinal {
				t.Fatalf("level %d, %d bytes: %d bytes, %v", level, len(s), len(u), e)
			}
			for _, cut := range []int{0, 1, len(d) / 3, len(d) / 2, len(d) - 2, len(d) - 1} {
				if u, n, e := inflate.Whole("", d[:cut], len(s)); u != "" || n != 0 || e != api.ErrMore {
					t.Fatalf("level %d, %d bytes of %d: %d bytes, %d, %v", level, cut, len(d), len(u), n, e)
				}
			}
		}
	}
}

func TestWhatTheLibraryWritesBehindAWindow(t *testing.T) {
	for _, window := range texts() {
		s := window[len(window)/2:] + "in the rain" + window[:len(window)/2]
		for _, level := range levels {
			d := deflated(level, window, true, s)
			if u, n, e := inflate.Whole(window, d, len(s)); u != s || n != len(d) || e != api.OK {
				t.Fatalf("level %d, a window of %d: %d bytes, %d, %v", level, len(window), len(u), n, e)
			}
			d = deflated(level, window, false, s)
			if u, e := inflate.Segment(window, d, len(s)); u != s || e != api.OK {
				t.Fatalf("level %d, a window of %d: %d bytes, %v", level, len(window), len(u), e)
			}
		}
	}
}

func TestTheLibrarysSegments(t *testing.T) {
	pick := chance(6)
	all := strings.Join(texts(), "")
	for _, level := range levels {
		var b bytes.Buffer
		w, _ := flate.NewWriter(&b, level)
		at, made := 0, 0
		for at < len(all) {
			s := all[at:min(at+pick(1<<pick(17)), len(all))]
			io.WriteString(w, s)
			w.Flush()
			d := b.String()[made:]
			window := lz.Tail(all[:at])
			if u, e := inflate.Segment(window, d, len(s)); u != s || e != api.OK {
				t.Fatalf("level %d, at %d: %d bytes of %d, %v", level, at, len(u), len(s), e)
			}
			if _, e := inflate.Segment(window, d, len(s)-1); e != api.ErrLarge {
				t.Fatalf("level %d, at %d: %v", level, at, e)
			}
			if u, e := inflate.Segment(window, d[:len(d)-1], len(s)); u != "" || e != api.ErrMore {
				t.Fatalf("level %d, at %d: %d bytes, %v", level, at, len(u), e)
			}
			at, made = at+len(s), b.Len()
		}
		if u, e := inflate.Segment("", b.String(), len(all)); u != all || e != api.OK {
			t.Fatalf("level %d: %d bytes of %d, %v", level, len(u), len(all), e)
		}
	}
}

func TestAllShortTexts(t *testing.T) {
	checkAll(t, "", "", 9)
	for i := range 256 {
		checkAll(t, "ab", string([]byte{byte(i)}), 9)
		for k := range 256 {
			checkAll(t, "ab", string([]byte{byte(i), byte(k)}), 9)
		}
	}
	pick := chance(8)
	for range 30000 {
		b := make([]byte, 3+pick(8))
		for i := range b {
			b[i] = byte(pick(1 << (1 + pick(8))))
		}
		checkAll(t, "ab", string(b), pick(20)-1)
	}
}

func TestWhatIsSpoilt(t *testing.T) {
	pick := chance(10)
	l := texts()
	for range 1500 {
		s := l[pick(len(l))]
		from := pick(len(s) + 1)
		s = s[from:min(from+pick(600), len(s))]
		window := s[:pick(len(s)+1)]
		b := []byte(deflated(levels[pick(len(levels))], window, pick(2) == 0, s[:len(s)/2], s[len(s)/2:]))
		checkAll(t, window, string(b), len(s)+pick(3)-1)
		for range 1 + pick(2) {
			b[pick(len(b))] ^= 1 << pick(8)
		}
		checkAll(t, window, string(b), 2*len(s))
		checkAll(t, "", string(b[:pick(len(b)+1)]), len(s))
	}
}

func TestBlocksOfAllKindsBehindOneAnother(t *testing.T) {
	pick := chance(12)
	for range 200 {
		bits, made := "", ""
		blocks := 1 + pick(6)
		for i := range blocks {
			last := 0
			if i == blocks-1 {
				last = 1
			}
			s := strings.Repeat("in the rain", 3)[pick(20):][:pick(14)]
			l := lz.Pack(made, s)
			switch pick(3) {
			case 0:
				bits += storedBlock(len(bits), last, s)
			case 1:
				bits += fixedBlock(last, l...)
			default:
				lits, dists := best(l)
				bits += ownBlock(last, lits, dists, l...)
			}
			made += s
		}
		if u, n, e := inflate.Whole("", packed(bits), len(made)); u != made || n != (len(bits)+7)/8 || e != api.OK {
			t.Fatalf("%q, %d, %v; want %q, %d", u, n, e, made, (len(bits)+7)/8)
		}
		checkAll(t, "", packed(bits), len(made)+pick(3)-1)
	}
}

func TestManySmallBlocks(t *testing.T) {
	// Each block's window is long, so one that is copied for each block takes very long.
	window := strings.Repeat("w", lz.Window)
	many := 60000
	bits := strings.Repeat(fixedBlock(0, byteOf('a')), many) + fixedBlock(1)
	if s, n, e := inflate.Whole(window, packed(bits), many); s != strings.Repeat("a", many) || n != (len(bits)+7)/8 || e != api.OK {
		t.Errorf("%d bytes, %d, %v", len(s), n, e)
	}
	empty := strings.Repeat("\x00\x00\x00\xff\xff", many)
	if s, e := inflate.Segment(window, empty, 0); s != "" || e != api.OK {
		t.Errorf("%q, %v", s, e)
	}
	if s, n, e := inflate.Whole(window, empty, 0); s != "" || n != 0 || e != api.ErrMore {
		t.Errorf("%q, %d, %v", s, n, e)
	}
}

func TestWithoutAReader(t *testing.T) {
	kept := bitio.New("\x03\x00")
	kept.Bits(17)
	for _, r := range []*bitio.Reader{nil, {}, bitio.New(""), kept} {
		for range 2 {
			if s, last, e := inflate.Block(r, "window", 9); s != "" || last || e != api.ErrMore {
				t.Errorf("%q, %v, %v", s, last, e)
			}
			if lits, dists, e := inflate.Header(r); len(lits) != 0 || len(dists) != 0 || e != api.ErrMore {
				t.Errorf("%v, %v, %v", lits, dists, e)
			}
		}
	}
}

func TestManyAtATime(t *testing.T) {
	s := texts()[8]
	d := deflated(6, "", true, s)
	wrong := make([]int, 8)
	var all sync.WaitGroup
	for i := range wrong {
		all.Go(func() {
			for range 5 {
				if u, n, e := inflate.Whole("", d, len(s)); u != s || n != len(d) || e != api.OK {
					wrong[i]++
				}
			}
		})
	}
	all.Wait()
	if !slices.Equal(wrong, make([]int, 8)) {
		t.Error(wrong)
	}
}

func BenchmarkWhole(b *testing.B) {
	s := strings.Join(texts(), "")
	d := deflated(6, "", true, s)
	b.SetBytes(int64(len(s)))
	for b.Loop() {
		inflate.Whole("", d, len(s))
	}
}

func FuzzAll(f *testing.F) {
	f.Add("", "\x01\x03\x00\xfc\xffabc", 9)
	f.Add("", "\x4b\x4c\x04\x00", 2)
	f.Add("b", "\x02\x02\x00\x00\x00\x00\xff\xff", 99)
	f.Add("in the", deflated(6, "in the", true, strings.Repeat("in the rain in the main", 20)), 999)
	f.Add("in the", deflated(6, "in the", false, "in the rain", texts()[10]), 9999)
	f.Fuzz(func(t *testing.T, window, s string, most int) {
		if len(s) > 1000 {
			return // the rule is slow
		}
		checkAll(t, window, s, most%100000)
		checkHeader(t, bitsOf(s))
		for _, start := range starts {
			checkBlock(t, bitsOf(s), window, most%100000, start)
		}
	})
}

// The layer stands on api, bitio, huffman, lz and symbols alone: so it can ask no clock, no chance, no file and no network.
func TestSourceStandsOnThoseBelowAlone(t *testing.T) {
	src, err := os.ReadFile("inflate.go")
	if err != nil {
		t.Fatal(err)
	}
	f, err := parser.ParseFile(token.NewFileSet(), "inflate.go", src, parser.ImportsOnly)
	if err != nil {
		t.Fatal(err)
	}
	for _, i := range f.Imports {
		if !slices.Contains([]string{`"slices"`, `"strings"`, `"mirador/api"`, `"mirador/bitio"`, `"mirador/huffman"`, `"mirador/lz"`, `"mirador/symbols"`}, i.Path.Value) {
			t.Errorf("import of %s", i.Path.Value)
		}
	}
	if tidy, err := format.Source(src); err != nil || string(tidy) != string(src) {
		t.Errorf("not gofmt's layout: %v", err)
	}
}
