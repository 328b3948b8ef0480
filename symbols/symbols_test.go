package symbols_test

import (
	"bytes"
	"compress/flate"
	"go/format"
	"go/parser"
	"go/token"
	"io"
	"math"
	"os"
	"slices"
	"strings"
	"sync"
	"testing"

	"mirador/api"
	"mirador/bitio"
	"mirador/huffman"
	"mirador/lz"
	"mirador/symbols"
)

// DEFLATE's tables, as its RFC has them: of each symbol the least number, and how many extra bits it has.
var (
	lengthBase   = []int{3, 4, 5, 6, 7, 8, 9, 10, 11, 13, 15, 17, 19, 23, 27, 31, 35, 43, 51, 59, 67, 83, 99, 115, 131, 163, 195, 227, 258}
	lengthBits   = []int{0, 0, 0, 0, 0, 0, 0, 0, 1, 1, 1, 1, 2, 2, 2, 2, 3, 3, 3, 3, 4, 4, 4, 4, 5, 5, 5, 5, 0}
	distanceBase = []int{1, 2, 3, 4, 5, 7, 9, 13, 17, 25, 33, 49, 65, 97, 129, 193, 257, 385, 513, 769, 1025, 1537, 2049, 3073, 4097, 6145, 8193, 12289, 16385, 24577}
	distanceBits = []int{0, 0, 0, 0, 1, 1, 2, 2, 3, 3, 4, 4, 5, 5, 6, 6, 7, 7, 8, 8, 9, 9, 10, 10, 11, 11, 12, 12, 13, 13}
)

// edges are numbers at which something may change.
var edges = []int{
	math.MinInt, math.MinInt + 1, math.MinInt + 3, math.MinInt32, -1 << 32, -32768, -258, -257, -256, -3, -1, 0, 1, 2, 3, 4, 5, 10, 11, 12, 29, 30, 31, 255, 256, 257, 258, 259, 264, 265,
	284, 285, 286, 287, 288, 319, 320, 321, 32767, 32768, 32769, 65536, 1<<32 + 1, 1<<32 + 3, 1<<32 + 257, 1<<32 + 285, math.MaxInt32, math.MaxInt - 256, math.MaxInt - 1, math.MaxInt,
}

// chance answers numbers from 0 to n - 1, the same ones for every seed.
func chance(seed uint64) func(n int) int {
	return func(n int) int {
		seed = seed*6364136223846793005 + 1442695040888963407
		return int(seed>>33) % n
	}
}

// times is a list of n numbers that are alike.
func times(n, v int) []int { return slices.Repeat([]int{v}, n) }

// row is a list of n numbers of 0, but for these: place, number, place, number, ..
func row(n int, l ...int) []int {
	r := make([]int, n)
	for i := 0; i < len(l); i += 2 {
		r[l[i]] = l[i+1]
	}
	return r
}

func byteOf(b int) api.Token        { return api.Token{Byte: b} }
func piece(length, d int) api.Token { return api.Token{Len: length, Dist: d} }

// bitsOf is the bits of a text, as 0s and 1s.
func bitsOf(s string) string {
	var b strings.Builder
	for i := range len(s) {
		for k := range 8 {
			b.WriteByte('0' + s[i]>>k&1)
		}
	}
	return b.String()
}

// packed is a text of 0s and 1s as bytes, and bits of 0 till a byte is whole.
func packed(bits string) string {
	b := make([]byte, (len(bits)+7)/8)
	for i := range len(bits) {
		b[i/8] |= (bits[i] - '0') << (i % 8)
	}
	return string(b)
}

// written is what a writer has, as 0s and 1s.
func written(w *bitio.Writer) string { return bitsOf(w.String())[:w.Len()] }

// number is n bits of a number as 0s and 1s, the lowest one first, or the greatest one.
func number(v, n int, lowFirst bool) string {
	s := ""
	for i := range n {
		b := string('0' + rune(v>>i&1))
		if lowFirst {
			s += b
		} else {
			s = b + s
		}
	}
	return s
}

// words are codes of lengths as texts of 0s and 1s, the greatest bit first.
func words(lens []int) []string {
	codes, _ := huffman.Codes(lens)
	l := make([]string, len(codes))
	for i, c := range codes {
		l[i] = number(c.Bits, c.Len, false)
	}
	return l
}

// place is the last place of bases that is not above n.
func place(bases []int, n int) int {
	i := len(bases) - 1
	for bases[i] > n {
		i--
	}
	return i
}

// form is the chapter's rule for Write: the bits of tokens that all may be, or none, if a symbol has no code.
func form(lits, dists []int, l []api.Token) (string, bool) {
	litWords, distWords := words(lits), words(dists)
	all := true
	var b strings.Builder
	code := func(l []string, sym int) {
		if sym >= len(l) || l[sym] == "" {
			all = false
			return
		}
		b.WriteString(l[sym])
	}
	for _, t := range l {
		if t.Len == 0 {
			code(litWords, t.Byte)
			continue
		}
		i := place(lengthBase, t.Len)
		code(litWords, 257+i)
		b.WriteString(number(t.Len-lengthBase[i], lengthBits[i], true))
		i = place(distanceBase, t.Dist)
		code(distWords, i)
		b.WriteString(number(t.Dist-distanceBase[i], distanceBits[i], true))
	}
	code(litWords, 256)
	if !all {
		return "", false
	}
	return b.String(), true
}

// source is a text of 0s and 1s that is read.
type source struct {
	bits string
	at   int
}

// book has of each code its symbol, and of what codes begin with -1.
func book(lens []int) map[string]int {
	m := map[string]int{}
	for sym, w := range words(lens) {
		if w == "" {
			continue
		}
		for i := range len(w) {
			m[w[:i]] = -1
		}
		m[w] = sym
	}
	return m
}

// symbol is the chapter's rule for huffman's Next.
func (s *source) symbol(m map[string]int) (int, api.Errno) {
	for from := s.at; ; s.at++ {
		sym, ok := m[s.bits[from:s.at]]
		switch {
		case !ok:
			return 0, api.ErrBad
		case sym >= 0:
			return sym, api.OK
		case s.at == len(s.bits):
			return 0, api.ErrMore
		}
	}
}

// extra is a number of so many bits, the lowest one first.
func (s *source) extra(n int) (int, api.Errno) {
	if n > len(s.bits)-s.at {
		return 0, api.ErrMore
	}
	v := 0
	for i := range n {
		v |= int(s.bits[s.at+i]-'0') << i
	}
	s.at += n
	return v, api.OK
}

// read is the chapter's rule for Read of lengths that can be: and how many bits were passed.
func read(bits string, lits, dists []int, most int) ([]api.Token, int, api.Errno) {
	s := &source{bits: bits}
	l, e := s.tokens(book(lits), book(dists), most)
	return l, s.at, e
}

func (s *source) tokens(lits, dists map[string]int, most int) ([]api.Token, api.Errno) {
	var l []api.Token
	made := 0
	for {
		sym, e := s.symbol(lits)
		var t api.Token
		switch {
		case e != api.OK:
			return nil, e
		case sym > 285:
			return nil, api.ErrBad
		case sym == 256:
			return l, api.OK
		case sym < 256:
			t.Byte = sym
			made++
		default:
			n, e := s.extra(lengthBits[sym-257])
			if e != api.OK {
				return nil, e
			}
			t.Len = lengthBase[sym-257] + n
			made += t.Len
			if t.Dist, e = s.distance(dists); e != api.OK {
				return nil, e
			}
		}
		if made > most {
			return nil, api.ErrLarge
		}
		l = append(l, t)
	}
}

func (s *source) distance(dists map[string]int) (int, api.Errno) {
	sym, e := s.symbol(dists)
	if e == api.OK && sym > 29 {
		e = api.ErrBad
	}
	if e != api.OK {
		return 0, e
	}
	n, e := s.extra(distanceBits[sym])
	return distanceBase[sym] + n, e
}

// wrong are lists that huffman.Check takes none of.
func wrong() [][]int {
	return [][]int{
		{1, 1, 1}, {16}, {-1}, {math.MinInt}, {math.MaxInt}, {1<<32 + 1}, times(289, 8), times(320, 8), times(321, 15), make([]int, 321), make([]int, 100000), append(times(256, 8), 15), times(33, 5), append(times(319, 9), 16),
	}
}

// samples are lists of tokens that may be.
func samples() [][]api.Token {
	all := lz.Plain(bytesOfAllKinds())
	for n := 3; n <= 258; n++ {
		all = append(all, piece(n, n))
	}
	for _, d := range distanceBase {
		all = append(all, piece(3, d), piece(258, d), piece(100, 32769-d))
	}
	return [][]api.Token{
		nil, {}, {{}}, {{Byte: 'a'}}, {{Byte: 255}}, {piece(3, 1)}, {piece(258, 32768)}, {piece(257, 1)}, {piece(3, 32768)}, {{Byte: 'a'}, piece(258, 1), {Byte: 255}, piece(12, 32768)},
		lz.Plain("in the rain"), lz.Pack("", "in the rain in the main in the rain"), lz.Plain(strings.Repeat("x", 3000)), lz.Pack("", strings.Repeat("x", 3000)), all,
	}
}

func bytesOfAllKinds() string {
	b := make([]byte, 256)
	for i := range b {
		b[i] = byte(i)
	}
	return string(b)
}

// some are n tokens that may be.
func some(pick func(int) int, n int) []api.Token {
	l := make([]api.Token, n)
	for i := range l {
		switch pick(3) {
		case 0:
			l[i] = byteOf(pick(256))
		case 1:
			l[i] = piece(3+pick(1<<pick(9))%256, 1+pick(1<<pick(16)))
		default:
			l[i] = piece(lengthBase[pick(29)], distanceBase[pick(30)])
		}
	}
	return l
}

// bytesIn is how many bytes tokens make.
func bytesIn(l []api.Token) int {
	n := 0
	for _, t := range l {
		n += max(t.Len, 1)
	}
	return n
}

// own are lengths of codes of all symbols that come.
func own(t *testing.T, l []api.Token, most int) (lits, dists []int) {
	t.Helper()
	a, b := symbols.Count(l)
	lits, e := huffman.Lengths(a, most)
	dists, f := huffman.Lengths(b, most)
	if e != api.OK || f != api.OK {
		t.Fatal(e, f)
	}
	return lits, dists
}

func TestExamples(t *testing.T) {
	if sym, extra, bits := symbols.Length(12); sym != 265 || extra != 1 || bits != 1 {
		t.Error(sym, extra, bits)
	}
	if sym, extra, bits := symbols.Distance(24577); sym != 29 || extra != 0 || bits != 13 {
		t.Error(sym, extra, bits)
	}
	if symbols.End != 256 {
		t.Error(symbols.End)
	}
}

// checkTable holds all four calls about numbers against a table.
func checkTable(t *testing.T, first int, bases, counts []int, most int, to func(int) (int, int, int), of func(int) (int, int)) {
	t.Helper()
	numbers := slices.Clone(edges)
	for n := -100; n < most+1000; n++ {
		numbers = append(numbers, n)
	}
	for _, n := range numbers {
		var sym, extra, bits int
		if n >= bases[0] && n <= most {
			i := place(bases, n)
			sym, extra, bits = first+i, n-bases[i], counts[i]
		}
		if a, b, c := to(n); a != sym || b != extra || c != bits {
			t.Errorf("of %d: %d, %d, %d; want %d, %d, %d", n, a, b, c, sym, extra, bits)
		}
	}
	for sym := -400; sym < 1000; sym++ {
		numbers = append(numbers, sym)
	}
	for _, sym := range numbers {
		var base, bits int
		if sym >= first && sym < first+len(bases) {
			base, bits = bases[sym-first], counts[sym-first]
		}
		if a, b := of(sym); a != base || b != bits {
			t.Errorf("of symbol %d: %d, %d; want %d, %d", sym, a, b, base, bits)
		}
	}
}

func TestLengthsAgainstTheTable(t *testing.T) {
	checkTable(t, 257, lengthBase, lengthBits, 258, symbols.Length, symbols.LengthOf)
}

func TestDistancesAgainstTheTable(t *testing.T) {
	checkTable(t, 0, distanceBase, distanceBits, 32768, symbols.Distance, symbols.DistanceOf)
}

func TestNumbersAreTheirBaseAndWhatIsExtra(t *testing.T) {
	check := func(n, sym, extra, bits, base, baseBits int) {
		t.Helper()
		if base+extra != n || bits != baseBits || extra < 0 || extra >= 1<<bits {
			t.Errorf("%d: symbol %d, %d more in %d bits, but %d in %d", n, sym, extra, bits, base, baseBits)
		}
	}
	for n := 3; n <= 258; n++ {
		sym, extra, bits := symbols.Length(n)
		base, baseBits := symbols.LengthOf(sym)
		check(n, sym, extra, bits, base, baseBits)
	}
	for n := 1; n <= 32768; n++ {
		sym, extra, bits := symbols.Distance(n)
		base, baseBits := symbols.DistanceOf(sym)
		check(n, sym, extra, bits, base, baseBits)
	}
}

func TestFixed(t *testing.T) {
	lits, dists := symbols.Fixed()
	if !slices.Equal(lits, slices.Concat(times(144, 8), times(112, 9), times(24, 7), times(8, 8))) {
		t.Error(lits)
	}
	if !slices.Equal(dists, times(30, 5)) {
		t.Error(dists)
	}
}

func TestCount(t *testing.T) {
	for _, x := range []struct {
		l           []api.Token
		lits, dists []int
	}{
		{nil, []int{256, 1}, nil}, {[]api.Token{}, []int{256, 1}, nil}, {[]api.Token{{}, {Byte: 255}, {}}, []int{0, 2, 255, 1, 256, 1}, nil},
		{[]api.Token{piece(3, 1), piece(258, 32768)}, []int{256, 1, 257, 1, 285, 1}, []int{0, 1, 29, 1}}, {[]api.Token{piece(257, 24576), piece(227, 24577)}, []int{256, 1, 284, 2}, []int{28, 1, 29, 1}},
		{[]api.Token{{Byte: 7}, {Byte: 7}, piece(3, 5), piece(3, 6), piece(11, 5)}, []int{7, 2, 256, 1, 257, 2, 265, 1}, []int{4, 3}},
		// What is not valid counts for nothing, and is none that ends it.
		{
			[]api.Token{{Byte: 256}, {Byte: -1}, {Len: 1}, {Len: 2, Dist: 1}, {Len: 259, Dist: 1}, {Len: 3}, {Len: 3, Dist: 32769}, {Dist: 1}, {Byte: 1, Len: 3, Dist: 1}, {Byte: math.MinInt}, {Len: math.MaxInt, Dist: math.MaxInt}, {Byte: 9}},
			[]int{9, 1, 256, 1}, nil,
		},
	} {
		kept := slices.Clone(x.l)
		lits, dists := symbols.Count(x.l)
		if !slices.Equal(lits, row(286, x.lits...)) || !slices.Equal(dists, row(30, x.dists...)) {
			t.Errorf("Count of %v: %v, %v", x.l, lits, dists)
		}
		if !slices.Equal(x.l, kept) {
			t.Errorf("%v was changed", kept)
		}
	}
	l := slices.Repeat([]api.Token{{Byte: 3}, piece(9, 9)}, 1000)
	if lits, dists := symbols.Count(l); !slices.Equal(lits, row(286, 3, 1000, 256, 1, 263, 1000)) || !slices.Equal(dists, row(30, 6, 1000)) {
		t.Error(lits, dists)
	}
}

func TestWriteByHand(t *testing.T) {
	lits, dists := symbols.Fixed()
	for _, x := range []struct {
		lits, dists []int
		l           []api.Token
		want        string
	}{
		{lits, dists, nil, "0000000"}, {lits, dists, []api.Token{{}}, "00110000" + "0000000"}, {lits, dists, []api.Token{{Byte: 255}}, "111111111" + "0000000"},
		{lits, dists, []api.Token{{Byte: 'a'}, piece(3, 1)}, "10010001" + "0000001" + "00000" + "0000000"}, {lits, dists, []api.Token{piece(12, 6)}, "0001001" + "1" + "00100" + "1" + "0000000"},
		// The lowest extra bit comes first: 20 is 1 more than 19 in two bits, 24579 is 2 more than 24577 in thirteen.
		{lits, dists, []api.Token{piece(20, 24579)}, "0001101" + "10" + "11101" + "0100000000000" + "0000000"}, {lits, dists, []api.Token{piece(258, 32768)}, "11000101" + "11101" + "1111111111111" + "0000000"},
		{lits, dists, []api.Token{piece(257, 4)}, "11000100" + "01111" + "00011" + "0000000"},
		// Codes of one's own, of no more symbols than are needed, or of more than there are.
		{row(257, 256, 1), nil, nil, "0"}, {row(257, 65, 1, 256, 1), nil, []api.Token{{Byte: 65}, {Byte: 65}}, "001"}, {row(258, 65, 2, 256, 2, 257, 1), []int{1}, []api.Token{{Byte: 65}, piece(3, 1)}, "10" + "0" + "0" + "11"},
		{row(320, 256, 1, 319, 1), times(320, 15), nil, "0"}, {row(320, 256, 2, 257, 1, 319, 2), row(320, 2, 1, 319, 1), []api.Token{piece(3, 3)}, "0" + "0" + "10"}, {row(257, 256, 15), make([]int, 320), nil, "000000000000000"},
	} {
		var w bitio.Writer
		if e := symbols.Write(&w, x.lits, x.dists, x.l); e != api.OK || written(&w) != x.want {
			t.Errorf("Write of %v: %s, %v; want %s", x.l, written(&w), e, x.want)
		}
	}
}

// checkWrite writes tokens behind some bits, holds them against the rule, and reads them again.
func checkWrite(t *testing.T, lits, dists []int, l []api.Token) {
	t.Helper()
	for _, ahead := range []string{"", "101", "11111111"} {
		var w bitio.Writer
		for _, b := range ahead {
			w.Bits(1, int(b-'0'))
		}
		keptTokens, keptLits, keptDists := slices.Clone(l), slices.Clone(lits), slices.Clone(dists)
		want, all := form(lits, dists, l)
		e := symbols.Write(&w, lits, dists, l)
		if (e == api.OK) != all || e != api.OK && e != api.ErrLengths || written(&w) != ahead+want {
			t.Fatalf("Write of %.60v by %v and %v: %v", l, lits, dists, e)
		}
		if e == api.OK {
			checkAgain(t, &w, len(ahead), lits, dists, l)
		}
		if !slices.Equal(l, keptTokens) || !slices.Equal(lits, keptLits) || !slices.Equal(dists, keptDists) {
			t.Fatalf("Write of %.60v: an argument was changed", keptTokens)
		}
	}
}

// checkAgain reads what was written behind some bits.
func checkAgain(t *testing.T, w *bitio.Writer, start int, lits, dists []int, l []api.Token) {
	t.Helper()
	made := bytesIn(l)
	for _, most := range []int{made, made + 1, math.MaxInt} {
		r := bitio.New(w.String() + "behind")
		r.Bits(start)
		m, e := symbols.Read(r, lits, dists, most)
		if e != api.OK || !slices.Equal(m, l) || r.At() != w.Len() || r.Err() != api.OK {
			t.Fatalf("Read of %.60v by %v and %v: %.60v, %v, at %d of %d", l, lits, dists, m, e, r.At(), w.Len())
		}
	}
	if made > 0 {
		r := bitio.New(w.String())
		r.Bits(start)
		if m, e := symbols.Read(r, lits, dists, made-1); e != api.ErrLarge || len(m) != 0 {
			t.Fatalf("Read of %.60v up to %d: %.60v, %v", l, made-1, m, e)
		}
	}
}

func TestWhatIsWrittenIsReadAgain(t *testing.T) {
	lits, dists := symbols.Fixed()
	for _, l := range samples() {
		checkWrite(t, lits, dists, l)
		checkWrite(t, times(320, 9), times(32, 5), l)
		checkWrite(t, times(286, 15), times(30, 15), l)
		for most := 9; most <= 15; most++ {
			a, b := own(t, l, most)
			checkWrite(t, a, b, l)
		}
	}
	pick := chance(3)
	for range 1000 {
		l := some(pick, pick(1<<pick(9)))
		checkWrite(t, lits, dists, l)
		a, b := own(t, l, 9+pick(7))
		checkWrite(t, a, b, l)
		// Without some codes, too, or with rows that end too early: then one that is needed may be missing.
		a[pick(len(a))] = 0
		checkWrite(t, a, b, l)
		checkWrite(t, a, b[:pick(31)], l)
		checkWrite(t, a[:pick(287)], b, l)
	}
}

func TestEachLengthAndEachDistanceIsReadAgain(t *testing.T) {
	lits, dists := symbols.Fixed()
	var l []api.Token
	for n := 1; n <= 32768; n++ {
		l = append(l, piece(3+n%256, n))
	}
	checkWrite(t, lits, dists, l)
	a, b := own(t, l, 15)
	checkWrite(t, a, b, l)
}

func TestWriteOfWhatMayNotBe(t *testing.T) {
	lits, dists := symbols.Fixed()
	a := api.Token{Byte: 'a'}
	check := func(lits, dists []int, l []api.Token, want api.Errno) {
		t.Helper()
		for _, ahead := range []string{"", "1", "1010101011"} {
			var w bitio.Writer
			for _, b := range ahead {
				w.Bits(1, int(b-'0'))
			}
			if e := symbols.Write(&w, lits, dists, l); e != want || written(&w) != ahead {
				t.Errorf("Write of %.60v by %.40v and %.40v: %v, %s behind %s; want %v", l, lits, dists, e, written(&w), ahead, want)
			}
		}
	}
	for _, b := range edges {
		for _, n := range edges {
			for _, d := range []int{math.MinInt, -1, 0, 1, 32768, 32769, math.MaxInt} {
				if x := (api.Token{Byte: b, Len: n, Dist: d}); !lz.Valid(x) {
					check(lits, dists, []api.Token{a, x, a}, api.ErrArg)
				}
			}
		}
	}
	odd := api.Token{Len: 1}
	for _, x := range [][]api.Token{{odd}, {odd, a}, {a, odd}, {a, piece(3, 1), odd}, {a, {Byte: 256}}, {{Len: 3}}, {{Dist: 1}}, {{Byte: 1, Len: 3, Dist: 1}}} {
		check(lits, dists, x, api.ErrArg)
		// A token that may not be is found ahead of lengths that can't be, and of a code that is missing.
		check(wrong()[0], dists, x, api.ErrArg)
		check(lits, wrong()[0], x, api.ErrArg)
		check(nil, nil, x, api.ErrArg)
	}
	for _, l := range wrong() {
		for _, x := range [][]api.Token{nil, {a}, {piece(3, 1)}} {
			check(l, dists, x, api.ErrLengths)
			check(lits, l, x, api.ErrLengths)
			check(l, l, x, api.ErrLengths)
		}
	}
}

func TestWriteWithoutACodeThatIsNeeded(t *testing.T) {
	lits, dists := symbols.Fixed()
	with := func(l []int, sym, n int) []int {
		l = slices.Clone(l)
		l[sym] = n
		return l
	}
	for _, x := range []struct {
		lits, dists []int
		l           []api.Token
		want        api.Errno
	}{
		{nil, dists, nil, api.ErrLengths}, {[]int{1}, dists, nil, api.ErrLengths}, {make([]int, 320), dists, nil, api.ErrLengths}, {lits[:256], dists, nil, api.ErrLengths}, {with(lits, 256, 0), dists, nil, api.ErrLengths},
		{lits[:257], dists, nil, api.OK}, {lits[:257], nil, lz.Plain("abc"), api.OK}, {lits, nil, nil, api.OK}, {lits, make([]int, 30), lz.Plain("abc"), api.OK},
		{with(lits, 'b', 0), dists, lz.Plain("abc"), api.ErrLengths}, {with(lits, 'd', 0), dists, lz.Plain("abc"), api.OK}, {with(lits, 0, 0), dists, []api.Token{{}}, api.ErrLengths}, {with(lits, 255, 0), dists, []api.Token{{Byte: 255}}, api.ErrLengths},
		{lits[:257], dists, []api.Token{piece(3, 1)}, api.ErrLengths}, {lits[:258], dists, []api.Token{piece(3, 1)}, api.OK}, {lits[:258], dists, []api.Token{piece(4, 1)}, api.ErrLengths},
		{with(lits, 285, 0), dists, []api.Token{piece(258, 1)}, api.ErrLengths}, {with(lits, 284, 0), dists, []api.Token{piece(258, 1)}, api.OK}, {with(lits, 284, 0), dists, []api.Token{piece(257, 1)}, api.ErrLengths},
		{lits[:285], dists, []api.Token{piece(258, 1)}, api.ErrLengths}, {lits[:286], dists, []api.Token{piece(258, 1)}, api.OK},
		{lits, nil, []api.Token{piece(3, 1)}, api.ErrLengths}, {lits, dists[:1], []api.Token{piece(3, 1)}, api.OK}, {lits, dists[:1], []api.Token{piece(3, 2)}, api.ErrLengths}, {lits, dists[:29], []api.Token{piece(3, 24576)}, api.OK},
		{lits, dists[:29], []api.Token{piece(3, 24577)}, api.ErrLengths}, {lits, with(dists, 29, 0), []api.Token{{Byte: 'a'}, piece(3, 32768)}, api.ErrLengths}, {lits, with(dists, 4, 0), []api.Token{piece(3, 4), piece(3, 7)}, api.OK},
		{lits, with(dists, 4, 0), []api.Token{piece(3, 4), piece(3, 7), piece(3, 6)}, api.ErrLengths},
	} {
		var w bitio.Writer
		w.Bits(3, 5)
		e := symbols.Write(&w, x.lits, x.dists, x.l)
		if e != x.want || (e == api.OK) == (written(&w) == "101") {
			t.Errorf("Write of %v by %d and %d lengths: %v, %s; want %v", x.l, len(x.lits), len(x.dists), e, written(&w), x.want)
		}
	}
}

// inflated is what the library makes of a block of fixed codes.
func inflated(l []api.Token, window string) (string, error) {
	var w bitio.Writer
	w.Bits(3, 3)
	lits, dists := symbols.Fixed()
	symbols.Write(&w, lits, dists, l)
	s, err := io.ReadAll(flate.NewReaderDict(strings.NewReader(w.String()), []byte(window)))
	return string(s), err
}

func TestTheLibraryReadsWhatIsWritten(t *testing.T) {
	window := strings.Repeat(bytesOfAllKinds(), 128)
	pick := chance(5)
	lists := samples()
	for range 100 {
		lists = append(lists, some(pick, pick(300)))
	}
	for _, l := range lists {
		want, e := lz.Expand(window, l)
		if s, err := inflated(l, window); s != want || err != nil || e != api.OK {
			t.Errorf("of %.60v the library makes %d bytes, %v; want %d", l, len(s), err, len(want))
		}
	}
}

func TestWhatTheLibraryWritesIsRead(t *testing.T) {
	lits, dists := symbols.Fixed()
	found := 0
	for _, s := range []string{"", "a", "ab", "in the rain", strings.Repeat("a", 20), strings.Repeat("a", 1000), strings.Repeat("the rain ", 30), strings.Repeat("ab", 70000), "\x00\x00\x00\xff\xff\xff\xff", "abcabcabcabc"} {
		var b bytes.Buffer
		f, _ := flate.NewWriter(&b, 9)
		io.WriteString(f, s)
		f.Close()
		r := bitio.New(b.String())
		if r.Bits(1); r.Bits(2) != 1 {
			continue // a block of another kind
		}
		found++
		l, e := symbols.Read(r, lits, dists, len(s))
		if u, f := lz.Expand("", l); e != api.OK || f != api.OK || u != s {
			t.Errorf("of %.40q: %.60v, %v", s, l, e)
		}
	}
	if found < 5 {
		t.Errorf("%d blocks of fixed codes", found)
	}
}

// checkRead holds one call against the rule; the bits end where a byte does.
func checkRead(t *testing.T, bits string, lits, dists []int, most int) {
	t.Helper()
	start := (8 - len(bits)%8) % 8
	r := bitio.New(packed(strings.Repeat("1", start) + bits))
	r.Bits(start)
	want, passed, fault := read(bits, lits, dists, most)
	l, e := symbols.Read(r, lits, dists, most)
	if e != fault || !slices.Equal(l, want) {
		t.Fatalf("Read of %.200s by %v and %v up to %d: %.60v, %v; want %.60v, %v", bits, lits, dists, most, l, e, want, fault)
	}
	if fault != api.ErrMore && (r.At() != start+passed || r.Err() != api.OK) {
		t.Fatalf("Read of %.200s by %v and %v up to %d: %v, %d bits passed, %v; want %d", bits, lits, dists, most, e, r.At()-start, r.Err(), passed)
	}
	if fault == api.ErrMore && r.Err() != api.ErrMore {
		t.Fatalf("Read of %.200s by %v and %v up to %d: the reader keeps %v", bits, lits, dists, most, r.Err())
	}
}

func TestReadByHand(t *testing.T) {
	lits, dists := symbols.Fixed()
	for _, x := range []struct {
		lits, dists []int
		bits        string
		most        int
		want        []api.Token
		e           api.Errno
	}{
		{lits, dists, "0000000", 0, nil, api.OK}, {lits, dists, "10010001" + "0000000", 1, []api.Token{{Byte: 'a'}}, api.OK}, {lits, dists, "0001001" + "1" + "00100" + "1" + "0000000", 12, []api.Token{piece(12, 6)}, api.OK},
		{lits, dists, "0001101" + "10" + "11101" + "0100000000000" + "0000000", 20, []api.Token{piece(20, 24579)}, api.OK}, {lits, dists, "11000101" + "11101" + "1111111111111" + "0000000", 258, []api.Token{piece(258, 32768)}, api.OK},
		// 258 can be told by the symbol ahead of its own, too.
		{lits, dists, "11000100" + "11111" + "00011" + "0000000", 258, []api.Token{piece(258, 4)}, api.OK},
		{lits, dists, "10010001" + "0000000", 0, nil, api.ErrLarge}, {lits, dists, "10010001", 0, nil, api.ErrLarge}, {lits, dists, "10010001", 1, nil, api.ErrMore}, {lits, dists, "", 9, nil, api.ErrMore}, {lits, dists, "000000", 9, nil, api.ErrMore},
		{lits, dists, "0001001", 99, nil, api.ErrMore}, {lits, dists, "0001001" + "1" + "0010", 99, nil, api.ErrMore}, {lits, dists, "0001001" + "1" + "00100", 99, nil, api.ErrMore}, {lits, dists, "0001001" + "1" + "00100" + "1", 99, nil, api.ErrMore},
		{lits, dists, "11000110", 99, nil, api.ErrBad}, {lits, dists, "11000111", 99, nil, api.ErrBad}, {lits, dists, "0000001" + "11110", 99, nil, api.ErrBad}, {lits, dists, "0000001" + "11111", 99, nil, api.ErrBad},
		{lits, times(32, 5), "0000001" + "11110", 99, nil, api.ErrBad}, {lits, times(32, 5), "0000001" + "11111", 99, nil, api.ErrBad}, {lits, times(32, 5), "0000001" + "00000" + "0000000", 99, []api.Token{piece(3, 1)}, api.OK},
		{row(320, 256, 1, 286, 1), nil, "1", 99, nil, api.ErrBad}, {row(320, 256, 1, 319, 1), nil, "1", 99, nil, api.ErrBad}, {row(320, 256, 1, 285, 1), []int{1}, "1" + "0" + "0", 258, []api.Token{piece(258, 1)}, api.OK},
		{row(258, 256, 1, 257, 1), row(320, 29, 1, 30, 1), "1" + "1", 99, nil, api.ErrBad}, {row(258, 256, 1, 257, 1), row(320, 29, 1, 319, 1), "1" + "1", 99, nil, api.ErrBad}, {row(258, 256, 1, 257, 1), row(320, 29, 1, 319, 1), "1" + "0" + "1111111111111" + "0", 99, []api.Token{piece(3, 32768)}, api.OK},
		// No code begins so, or there are no codes.
		{row(257, 256, 1), nil, "0", 0, nil, api.OK}, {row(257, 256, 1), nil, "1", 0, nil, api.ErrBad}, {row(257, 256, 15), nil, "01", 0, nil, api.ErrBad}, {nil, dists, "", 99, nil, api.ErrBad}, {make([]int, 320), dists, "0", 99, nil, api.ErrBad},
		{lits, nil, "0000001", 99, nil, api.ErrBad}, {lits, nil, "10010001" + "0000000", 99, []api.Token{{Byte: 'a'}}, api.OK}, {row(258, 256, 1, 257, 1), []int{1}, "1" + "1", 99, nil, api.ErrBad}, {row(258, 256, 1, 257, 1), []int{1}, "1", 99, nil, api.ErrMore},
		// Extra bits that are missing are found ahead of a distance that can't be read.
		{row(266, 256, 1, 265, 1), nil, "1", 99, nil, api.ErrMore}, {row(266, 256, 1, 265, 1), nil, "1" + "0", 99, nil, api.ErrBad},
		// A piece that would be too much is told when its distance was read.
		{row(258, 256, 1, 257, 1), []int{1}, "1" + "0", 2, nil, api.ErrLarge}, {row(258, 256, 1, 257, 1), []int{1}, "1" + "0" + "0", 3, []api.Token{piece(3, 1)}, api.OK}, {row(258, 256, 1, 257, 1), []int{1}, "1", 2, nil, api.ErrMore}, {row(258, 256, 1, 257, 1), []int{1}, "1" + "1", 2, nil, api.ErrBad},
		{row(258, 256, 1, 257, 1), []int{1}, "1" + "0" + "1" + "0", 5, nil, api.ErrLarge}, {row(258, 256, 1, 257, 1), []int{1}, "1" + "0" + "1" + "0" + "0", 6, []api.Token{piece(3, 1), piece(3, 1)}, api.OK},
		// It is a token that is told as too much: where there is none, nothing is.
		{row(257, 65, 1, 256, 1), nil, "1", -1, nil, api.OK}, {row(257, 65, 1, 256, 1), nil, "0", -1, nil, api.ErrLarge}, {row(257, 65, 1, 256, 1), nil, "0", math.MinInt, nil, api.ErrLarge}, {row(257, 65, 1, 256, 1), nil, "001", math.MaxInt, []api.Token{{Byte: 65}, {Byte: 65}}, api.OK},
	} {
		start := (8 - len(x.bits)%8) % 8
		r := bitio.New(packed(strings.Repeat("1", start) + x.bits))
		r.Bits(start)
		l, e := symbols.Read(r, x.lits, x.dists, x.most)
		if e != x.e || !slices.Equal(l, x.want) || e == api.OK && r.Left() != 0 {
			t.Errorf("Read of %s up to %d: %v, %v; want %v, %v", x.bits, x.most, l, e, x.want, x.e)
		}
		checkRead(t, x.bits, x.lits, x.dists, x.most)
	}
}

func TestReadOfWhatIsCutOff(t *testing.T) {
	pick := chance(7)
	for range 20 {
		l := some(pick, 1+pick(20))
		for _, fixed := range []bool{true, false} {
			lits, dists := symbols.Fixed()
			if !fixed {
				lits, dists = own(t, l, 15)
			}
			bits, _ := form(lits, dists, l)
			for cut := range len(bits) + 1 {
				checkRead(t, bits[:cut], lits, dists, math.MaxInt)
				if _, e := symbols.Read(bitio.New(packed(bits[:cut/8*8])), lits, dists, math.MaxInt); (e == api.ErrMore) != (cut/8*8 < len(bits)) {
					t.Fatalf("Read of %d bits of %d: %v", cut/8*8, len(bits), e)
				}
			}
			for most := -3; most < bytesIn(l)+3; most++ {
				checkRead(t, bits, lits, dists, most)
			}
		}
	}
}

func TestReadOfLengthsThatCannotBe(t *testing.T) {
	lits, dists := symbols.Fixed()
	check := func(lits, dists []int) {
		t.Helper()
		for _, s := range []string{"", "\x00\x00\x00", "\xff"} {
			r := bitio.New(s)
			if l, e := symbols.Read(r, lits, dists, 0); len(l) != 0 || e != api.ErrLengths || r.At() != 0 || r.Err() != api.OK {
				t.Errorf("Read of %q by %.40v and %.40v: %v, %v, at %d, %v", s, lits, dists, l, e, r.At(), r.Err())
			}
		}
	}
	for _, l := range wrong() {
		kept := slices.Clone(l)
		check(l, dists)
		check(lits, l)
		check(l, l)
		check(nil, l)
		check(l, nil)
		if !slices.Equal(l, kept) {
			t.Errorf("%.40v was changed", kept)
		}
	}
}

func TestReadOfAnyBits(t *testing.T) {
	pick := chance(9)
	lits, dists := symbols.Fixed()
	for range 3000 {
		s := make([]byte, pick(40))
		for i := range s {
			s[i] = byte(pick(256))
		}
		bits := bitsOf(string(s))
		bits = bits[:len(bits)-pick(8)*min(len(s), 1)]
		most := pick(1 << pick(12))
		checkRead(t, bits, lits, dists, most)
		checkRead(t, bits, times(320, 9), times(320, 9), most)
		l := some(pick, 1+pick(8))
		a, b := own(t, l, 9+pick(7))
		checkRead(t, bits, a, b, most)
		// Symbols beyond those that stand for something, too.
		checkRead(t, bits, row(320, pick(320), 2, pick(320), 2, pick(320), 2, 256, 3), row(320, pick(320), 2, pick(320), 2, pick(30), 1), most)
	}
}

func TestWithoutAReaderOrAWriter(t *testing.T) {
	lits, dists := symbols.Fixed()
	kept := bitio.New("\x00\x00")
	kept.Bits(17)
	for _, r := range []*bitio.Reader{nil, {}, bitio.New(""), kept} {
		for range 2 {
			if l, e := symbols.Read(r, lits, dists, 99); len(l) != 0 || e != api.ErrMore || r.Err() != api.ErrMore {
				t.Errorf("%v, %v, %v", l, e, r.Err())
			}
		}
		if l, e := symbols.Read(r, wrong()[0], dists, 99); len(l) != 0 || e != api.ErrLengths {
			t.Errorf("%v, %v", l, e)
		}
	}
	if e := symbols.Write(nil, lits, dists, samples()[9]); e != api.OK {
		t.Error(e)
	}
	if e := symbols.Write(nil, lits, dists, []api.Token{{Len: 1}}); e != api.ErrArg {
		t.Error(e)
	}
	if e := symbols.Write(nil, nil, nil, nil); e != api.ErrLengths {
		t.Error(e)
	}
}

func TestOneBlockBehindAnother(t *testing.T) {
	lits, dists := symbols.Fixed()
	var w bitio.Writer
	for _, l := range samples() {
		a, b := own(t, l, 15)
		if e, f := symbols.Write(&w, lits, dists, l), symbols.Write(&w, a, b, l); e != api.OK || f != api.OK {
			t.Fatal(e, f)
		}
	}
	r := bitio.New(w.String())
	for _, l := range samples() {
		a, b := own(t, l, 15)
		m, e := symbols.Read(r, lits, dists, math.MaxInt)
		n, f := symbols.Read(r, a, b, math.MaxInt)
		if e != api.OK || f != api.OK || !slices.Equal(m, l) || !slices.Equal(n, l) {
			t.Fatalf("%.60v: %v, %v", l, e, f)
		}
	}
	if r.At() != w.Len() {
		t.Error(r.At(), w.Len())
	}
}

func TestAnswersShareNothing(t *testing.T) {
	for _, call := range []func() ([]int, []int){
		symbols.Fixed,
		func() ([]int, []int) { return symbols.Count([]api.Token{{Byte: 'a'}, piece(5, 2)}) },
	} {
		a, b := call()
		wantA, wantB := slices.Clone(a), slices.Clone(b)
		c, d := call()
		for i := range a {
			a[i] = -1
		}
		_ = append(a[:10:cap(a)], slices.Repeat([]int{-1}, cap(a)-10)...)
		if !slices.Equal(b, wantB) {
			t.Error("one list is shared with the other one")
		}
		for i := range b {
			b[i] = -1
		}
		if e, f := call(); !slices.Equal(c, wantA) || !slices.Equal(d, wantB) || !slices.Equal(e, wantA) || !slices.Equal(f, wantB) {
			t.Error("an answer is shared with another one")
		}
	}
	lits, dists := symbols.Fixed()
	var w bitio.Writer
	l := samples()[9]
	symbols.Write(&w, lits, dists, l)
	a, _ := symbols.Read(bitio.New(w.String()), lits, dists, 999)
	b, _ := symbols.Read(bitio.New(w.String()), lits, dists, 999)
	clear(a)
	if !slices.Equal(b, l) {
		t.Error("what is read is shared")
	}
}

func TestManyAtATime(t *testing.T) {
	l := samples()[len(samples())-1]
	lits, dists := symbols.Fixed()
	wrong := make([]int, 8)
	var all sync.WaitGroup
	for i := range wrong {
		all.Go(func() {
			for range 20 {
				var w bitio.Writer
				e := symbols.Write(&w, lits, dists, l)
				m, f := symbols.Read(bitio.New(w.String()), lits, dists, math.MaxInt)
				if e != api.OK || f != api.OK || !slices.Equal(m, l) {
					wrong[i]++
				}
			}
		})
	}
	all.Wait()
	if !slices.Equal(wrong, make([]int, 8)) {
		t.Error(wrong)
	}
}

func BenchmarkWriteAndRead(b *testing.B) {
	lits, dists := symbols.Fixed()
	l := some(chance(1), 100000)
	for b.Loop() {
		var w bitio.Writer
		symbols.Write(&w, lits, dists, l)
		symbols.Read(bitio.New(w.String()), lits, dists, math.MaxInt)
	}
}

func FuzzAll(f *testing.F) {
	f.Add("in the rain in the main", "\x4b\x4c\x04\x00", "\x01\x01", "\x01", 99)
	f.Add("", "", "", "", 0)
	f.Fuzz(func(t *testing.T, text, s, lits, dists string, most int) {
		// Lengths stand at the end of a row that is as long as there are symbols, so that End may have one.
		lens := func(s string, n int) []int {
			l := make([]int, max(n-len(s), 0))
			for i := range len(s) {
				l = append(l, int(int8(s[i])))
			}
			return l
		}
		a, b := lens(lits, 260), lens(dists, 5)
		_, e := huffman.Check(a)
		_, g := huffman.Check(b)
		tokens := lz.Pack("", text)
		if e == api.OK && g == api.OK {
			checkRead(t, bitsOf(s), a, b, most)
			checkWrite(t, a, b, tokens)
		} else if l, e := symbols.Read(bitio.New(s), a, b, most); l != nil || e != api.ErrLengths {
			t.Errorf("%v, %v", l, e)
		}
		a, b = symbols.Fixed()
		checkRead(t, bitsOf(s), a, b, most)
		checkWrite(t, a, b, tokens)
	})
}

// The layer stands on api, bitio, huffman and lz alone: so it can ask no clock, no chance, no file and no network.
func TestSourceStandsOnThoseBelowAlone(t *testing.T) {
	src, err := os.ReadFile("symbols.go")
	if err != nil {
		t.Fatal(err)
	}
	f, err := parser.ParseFile(token.NewFileSet(), "symbols.go", src, parser.ImportsOnly)
	if err != nil {
		t.Fatal(err)
	}
	for _, i := range f.Imports {
		if !slices.Contains([]string{`"mirador/api"`, `"mirador/bitio"`, `"mirador/huffman"`, `"mirador/lz"`}, i.Path.Value) {
			t.Errorf("import of %s", i.Path.Value)
		}
	}
	if tidy, err := format.Source(src); err != nil || string(tidy) != string(src) {
		t.Errorf("not gofmt's layout: %v", err)
	}
}
