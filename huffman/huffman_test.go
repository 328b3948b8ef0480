package huffman_test

import (
	"container/heap"
	"go/format"
	"go/parser"
	"go/token"
	"math"
	"math/big"
	"os"
	"slices"
	"strings"
	"sync"
	"testing"

	"mirador/api"
	"mirador/bitio"
	"mirador/huffman"
)

// chance answers numbers from 0 to n - 1, the same ones for every seed.
func chance(seed uint64) func(n int) int {
	return func(n int) int {
		seed = seed*6364136223846793005 + 1442695040888963407
		return int(seed>>33) % n
	}
}

// times is a list of n numbers that are alike.
func times(n, v int) []int { return slices.Repeat([]int{v}, n) }

// left is the chapter's rule for Check, in fractions of any size.
func left(lens []int) (int, api.Errno) {
	sum := new(big.Rat)
	for _, n := range lens {
		if n < 0 || n > 15 {
			return 0, api.ErrLengths
		}
		if n > 0 {
			sum.Add(sum, big.NewRat(1, 1<<n))
		}
	}
	rest := new(big.Rat).Sub(big.NewRat(1, 1), sum)
	if len(lens) > 320 || rest.Sign() < 0 {
		return 0, api.ErrLengths
	}
	rest.Mul(rest, big.NewRat(32768, 1))
	return int(rest.Num().Int64()), api.OK
}

// word is a code as a text of 0s and 1s, the greatest bit first.
func word(c api.Code) string {
	s := ""
	for i := c.Len - 1; i >= 0; i-- {
		s += string('0' + rune(c.Bits>>i&1))
	}
	return s
}

func words(t *testing.T, lens []int) []string {
	t.Helper()
	codes, e := huffman.Codes(lens)
	if e != api.OK || len(codes) != len(lens) {
		t.Fatalf("Codes of %v: %d of them, %v", lens, len(codes), e)
	}
	var l []string
	for _, c := range codes {
		l = append(l, word(c))
	}
	return l
}

// next is the chapter's rule for Next on a text of 0s and 1s: the symbol, how many bits were passed, the error.
func next(codes []string, bits string) (int, int, api.Errno) {
	for n := 0; ; n++ {
		begins := false
		for symbol, c := range codes {
			if c != "" && c == bits[:n] {
				return symbol, n, api.OK
			}
			begins = begins || c != "" && strings.HasPrefix(c, bits[:n])
		}
		if !begins {
			return 0, n, api.ErrBad
		}
		if n == len(bits) {
			return 0, n, api.ErrMore
		}
	}
}

// packed is a text of 0s and 1s as bytes, and bits of 0 till a byte is whole.
func packed(bits string) string {
	var w bitio.Writer
	for _, b := range bits {
		w.Bits(1, int(b-'0'))
	}
	return w.String()
}

// lists calls f with all lists of n numbers from 0 to most.
func lists(n, most int, f func(l []int)) {
	l := make([]int, n)
	for {
		f(l)
		i := 0
		for i < n && l[i] == most {
			l[i] = 0
			i++
		}
		if i == n {
			return
		}
		l[i]++
	}
}

func cost(freqs, lens []int) int {
	sum := 0
	for i, n := range freqs {
		sum += n * lens[i]
	}
	return sum
}

// wrong are lists that Check takes none of.
func wrong() [][]int {
	return [][]int{
		{-1}, {16}, {math.MinInt}, {math.MaxInt}, {1, -1}, {-1, 1}, {0, 0, 16}, {16, 0}, {-15}, {1 << 32}, {-1 << 32}, {1<<32 + 1}, {64}, {-64},
		{1, 1, 1}, {1, 1, 15}, {15, 1, 1}, {1, 2, 2, 15}, {1, 2, 3, 3, 15}, {2, 2, 2, 2, 2}, {2, 2, 2, 2, 15}, times(3, 1), times(320, 1), times(320, 8), times(257, 8),
		times(129, 7), append(times(256, 8), 15), append(times(319, 9), 1), make([]int, 321), times(321, 15), times(321, 9), make([]int, 100000), times(100000, 1),
		append(make([]int, 320), -1), append(make([]int, 319), 16), {15, 15, math.MinInt, math.MaxInt},
	}
}

// right are lists that Check takes.
func right() [][]int {
	deep := []int{15, 15}
	for n := 14; n > 0; n-- {
		deep = append(deep, n)
	}
	fixed := slices.Concat(times(144, 8), times(112, 9), times(24, 7), times(8, 8))
	return [][]int{
		nil, {}, {0}, {1}, {15}, {0, 0, 0}, {1, 1}, {0, 1, 0}, {1, 0, 1}, {1, 2}, {2, 1}, {2, 2, 2, 2}, {0, 2, 0, 3}, {5, 5}, {1, 3}, {3, 1}, {15, 1}, {1, 15}, {7, 0, 7, 15},
		{1, 0, 3, 3, 2}, {3, 3, 3, 3, 3, 2, 4, 4}, deep, deep[1:], slices.Concat(deep[2:], deep[:2]), fixed, times(30, 5), times(32, 5), make([]int, 320), times(320, 9),
		times(320, 15), times(256, 8), times(128, 7), append(times(255, 8), 9, 9), append(times(255, 8), 15), append(make([]int, 319), 1), append(make([]int, 318), 15, 15),
	}
}

func TestExamples(t *testing.T) {
	if got := words(t, []int{3, 3, 3, 3, 3, 2, 4, 4}); strings.Join(got, " ") != "010 011 100 101 110 00 1110 1111" {
		t.Error(got)
	}
	if l, e := huffman.Lengths([]int{8, 1, 1, 2}, 15); !slices.Equal(l, []int{1, 3, 3, 2}) || e != api.OK {
		t.Error(l, e)
	}
	if huffman.Most != 15 || huffman.Count != 320 {
		t.Error(huffman.Most, huffman.Count)
	}
}

func TestCheckTellsWhatRoomIsLeft(t *testing.T) {
	for _, x := range []struct {
		lens []int
		want int
	}{
		{nil, 32768}, {[]int{}, 32768}, {[]int{0}, 32768}, {make([]int, 320), 32768}, {[]int{1}, 16384}, {[]int{1, 1}, 0}, {[]int{1, 2}, 8192}, {[]int{0, 15, 0}, 32767},
		{[]int{15, 15}, 32766}, {[]int{14}, 32766}, {times(320, 15), 32448}, {times(320, 9), 12288}, {times(256, 8), 0}, {times(255, 8), 128}, {append(times(255, 8), 9, 9), 0},
		{[]int{1, 2, 3, 4, 5, 6, 7, 8, 9, 10, 11, 12, 13, 14, 15}, 1}, {[]int{1, 2, 3, 4, 5, 6, 7, 8, 9, 10, 11, 12, 13, 14, 15, 15}, 0}, {times(30, 5), 2048},
	} {
		if n, e := huffman.Check(x.lens); n != x.want || e != api.OK {
			t.Errorf("Check of %v: %d, %v; want %d", x.lens, n, e, x.want)
		}
	}
	for _, l := range right() {
		want, _ := left(l)
		if n, e := huffman.Check(l); n != want || e != api.OK {
			t.Errorf("Check of %v: %d, %v; want %d", l, n, e, want)
		}
	}
}

func TestLengthsThatCannotBe(t *testing.T) {
	for _, l := range wrong() {
		kept := slices.Clone(l)
		if n, e := huffman.Check(l); n != 0 || e != api.ErrLengths {
			t.Errorf("Check of %.40v: %d, %v", l, n, e)
		}
		if c, e := huffman.Codes(l); len(c) != 0 || e != api.ErrLengths {
			t.Errorf("Codes of %.40v: %d of them, %v", l, len(c), e)
		}
		if d, e := huffman.New(l); d != nil || e != api.ErrLengths {
			t.Errorf("New of %.40v: %v, %v", l, d, e)
		}
		if !slices.Equal(l, kept) {
			t.Errorf("%.40v was changed", kept)
		}
	}
}

func TestCheckAgainstFractions(t *testing.T) {
	for n := range 5 {
		lists(n, 7, func(l []int) {
			l = slices.Clone(l)
			for i := range l {
				l[i]-- // from -1 on
			}
			want, fault := left(l)
			if got, e := huffman.Check(l); got != want || e != fault {
				t.Errorf("Check of %v: %d, %v; want %d, %v", l, got, e, want, fault)
			}
		})
	}
	pick := chance(5)
	for range 3000 {
		l := make([]int, pick(325))
		least := pick(10)
		for i := range l {
			l[i] = least + pick(16-least)
		}
		want, fault := left(l)
		if got, e := huffman.Check(l); got != want || e != fault {
			t.Errorf("Check of %v: %d, %v; want %d, %v", l, got, e, want, fault)
		}
	}
}

func TestCodesByHand(t *testing.T) {
	for _, x := range []struct {
		lens []int
		want string
	}{
		{[]int{1}, "0"}, {[]int{0, 1, 0}, "|0|"}, {[]int{1, 1}, "0|1"}, {[]int{2, 1}, "10|0"}, {[]int{0, 2, 0, 3}, "|00||010"}, {[]int{1, 3}, "0|100"}, {[]int{3, 1}, "100|0"},
		{[]int{5, 5}, "00000|00001"}, {[]int{1, 0, 3, 3, 2}, "0||110|111|10"}, {[]int{4, 2}, "0100|00"}, {[]int{15}, "000000000000000"}, {[]int{1, 15}, "0|100000000000000"},
		{[]int{15, 15, 2}, "010000000000000|010000000000001|00"}, {nil, ""}, {[]int{0, 0}, "|"},
	} {
		if got := strings.Join(words(t, x.lens), "|"); got != x.want {
			t.Errorf("Codes of %v: %s, want %s", x.lens, got, x.want)
		}
	}
	// DEFLATE's own codes, as its RFC has them.
	fixed := words(t, slices.Concat(times(144, 8), times(112, 9), times(24, 7), times(8, 8)))
	for symbol, want := range map[int]string{0: "00110000", 143: "10111111", 144: "110010000", 255: "111111111", 256: "0000000", 279: "0010111", 280: "11000000", 287: "11000111"} {
		if fixed[symbol] != want {
			t.Errorf("symbol %d: %s, want %s", symbol, fixed[symbol], want)
		}
	}
}

// checkCodes holds codes against the chapter's rules.
func checkCodes(t *testing.T, lens []int) {
	t.Helper()
	codes, e := huffman.Codes(lens)
	if e != api.OK || len(codes) != len(lens) {
		t.Fatalf("Codes of %v: %d of them, %v", lens, len(codes), e)
	}
	behind := 0 // the next number of the length that is one less
	for n := 1; n <= 15; n++ {
		number := behind * 2
		for symbol, c := range codes {
			if lens[symbol] == n {
				if c != (api.Code{Bits: number, Len: n}) {
					t.Fatalf("Codes of %v: symbol %d has %v, want %d", lens, symbol, c, number)
				}
				number++
			}
		}
		behind = number
	}
	for symbol, c := range codes {
		if lens[symbol] == 0 && c != (api.Code{}) {
			t.Fatalf("Codes of %v: symbol %d has %v", lens, symbol, c)
		}
	}
}

func TestCodesOfAllShortLists(t *testing.T) {
	for n := range 6 {
		lists(n, 5, func(l []int) {
			want, fault := left(l)
			if got, e := huffman.Check(l); got != want || e != fault {
				t.Fatalf("Check of %v: %d, %v", l, got, e)
			}
			if fault == api.OK {
				checkCodes(t, l)
				checkPrefixes(t, l)
			}
		})
	}
	for _, l := range right() {
		checkCodes(t, l)
		checkPrefixes(t, l)
	}
}

// checkPrefixes tells where a code begins with another one.
func checkPrefixes(t *testing.T, lens []int) {
	t.Helper()
	codes := words(t, lens)
	for i, a := range codes {
		if len(a) != lens[i] {
			t.Fatalf("Codes of %v: %s has %d bits", lens, a, len(a))
		}
		for k, b := range codes {
			if i != k && a != "" && strings.HasPrefix(b, a) {
				t.Fatalf("Codes of %v: %s begins with %s", lens, b, a)
			}
		}
	}
}

// checkNext holds one call against the chapter's rule, on these bits.
func checkNext(t *testing.T, lens []int, codes []string, bits string) {
	t.Helper()
	d, _ := huffman.New(lens)
	// Ahead of them what makes bytes whole, so that no bit is behind them.
	start := (8 - len(bits)%8) % 8
	r := bitio.New(packed(strings.Repeat("1", start) + bits))
	r.Bits(start)
	symbol, passed, fault := next(codes, bits)
	n, e := d.Next(r)
	if n != symbol || e != fault {
		t.Fatalf("Next of %v at %s: %d, %v; want %d, %v", lens, bits, n, e, symbol, fault)
	}
	if r.At() != start+passed {
		t.Fatalf("Next of %v at %s: %d bits passed, want %d", lens, bits, r.At()-start, passed)
	}
	if (r.Err() == api.ErrMore) != (fault == api.ErrMore) {
		t.Fatalf("Next of %v at %s: the reader keeps %v", lens, bits, r.Err())
	}
}

func TestNextOfAllShortLists(t *testing.T) {
	var all []string
	for n := range 7 {
		for v := range 1 << n {
			s := ""
			for i := range n {
				s += string('0' + rune(v>>i&1))
			}
			all = append(all, s)
		}
	}
	for n := range 5 {
		lists(n, 4, func(l []int) {
			if _, e := left(l); e != api.OK {
				return
			}
			codes := words(t, l)
			for _, bits := range all {
				checkNext(t, l, codes, bits)
			}
		})
	}
}

func TestNextOfLongCodes(t *testing.T) {
	for _, l := range right() {
		codes := words(t, l)
		for _, c := range codes {
			for cut := range len(c) + 1 {
				checkNext(t, l, codes, c[:cut])
				checkNext(t, l, codes, c[:cut]+"1")
				checkNext(t, l, codes, c[:cut]+"0")
			}
			if len(codes) > 40 && len(c) > 8 {
				break // one such code will do: they are many
			}
		}
		for _, bits := range []string{"", strings.Repeat("0", 40), strings.Repeat("1", 40), strings.Repeat("01", 20), strings.Repeat("10", 20)} {
			checkNext(t, l, codes, bits)
		}
	}
}

func TestNextTellsErrBadAsSoonAsNoCodeBeginsSo(t *testing.T) {
	for _, x := range []struct {
		lens   []int
		bits   string
		passed int
	}{
		{[]int{1}, "1", 1}, {[]int{2}, "1", 1}, {[]int{2}, "01", 2}, {[]int{0, 2, 0, 3}, "1", 1}, {[]int{0, 2, 0, 3}, "011", 3}, {[]int{5, 5}, "1", 1}, {[]int{5, 5}, "0001", 4},
		{[]int{15}, "1", 1}, {[]int{15}, "000000000000001", 15}, {[]int{15}, "00000001", 8}, {[]int{1, 3}, "11", 2}, {[]int{1, 3}, "101", 3}, {[]int{15, 1}, "11", 2},
	} {
		d, _ := huffman.New(x.lens)
		r := bitio.New(packed(x.bits + "1111"))
		if n, e := d.Next(r); n != 0 || e != api.ErrBad || r.At() != x.passed || r.Err() != api.OK {
			t.Errorf("Next of %v at %s: %d, %v, at %d, %v", x.lens, x.bits, n, e, r.At(), r.Err())
		}
	}
}

func TestNextOfNoCodesAtAll(t *testing.T) {
	none, _ := huffman.New(nil)
	zeros, _ := huffman.New(make([]int, 320))
	for _, d := range []*huffman.Decoder{nil, {}, none, zeros} {
		for _, s := range []string{"", "\x00", "\xff", "abc"} {
			r := bitio.New(s)
			for range 3 {
				if n, e := d.Next(r); n != 0 || e != api.ErrBad {
					t.Errorf("at %q: %d, %v", s, n, e)
				}
			}
			if r.At() != 0 || r.Err() != api.OK {
				t.Errorf("at %q: at %d, %v: a bit was read", s, r.At(), r.Err())
			}
		}
		if n, e := d.Next(nil); n != 0 || e != api.ErrBad {
			t.Errorf("without a reader: %d, %v", n, e)
		}
	}
}

func TestNextWithoutBitsIsErrMore(t *testing.T) {
	for _, l := range right() {
		d, _ := huffman.New(l)
		if room, _ := left(l); room == 32768 {
			continue // no codes at all
		}
		kept := bitio.New("\x00\x00")
		kept.Bits(17)
		for _, r := range []*bitio.Reader{nil, {}, bitio.New(""), kept} {
			at := r.At()
			for range 2 {
				if n, e := d.Next(r); n != 0 || e != api.ErrMore || r.At() != at || r.Err() != api.ErrMore {
					t.Errorf("Next of %v: %d, %v, at %d, %v", l, n, e, r.At(), r.Err())
				}
			}
		}
	}
	d, _ := huffman.New([]int{0, 15})
	r := bitio.New("\x00")
	if n, e := d.Next(r); n != 0 || e != api.ErrMore || r.At() != 8 || r.Err() != api.ErrMore {
		t.Errorf("8 bits of 15: %d, %v, at %d, %v", n, e, r.At(), r.Err())
	}
	r = bitio.New("\x00\x80")
	if n, e := d.Next(r); n != 1 || e != api.OK || r.At() != 15 || r.Bits(1) != 1 {
		t.Errorf("15 bits of 16: %d, %v, at %d", n, e, r.At())
	}
}

// checkAgain writes symbols by their codes, and reads them again.
func checkAgain(t *testing.T, lens, symbols []int) {
	t.Helper()
	codes, e := huffman.Codes(lens)
	d, f := huffman.New(lens)
	if e != api.OK || f != api.OK || d == nil {
		t.Fatalf("%v: %v, %v", lens, e, f)
	}
	var w bitio.Writer
	w.Bits(3, 5)
	for _, s := range symbols {
		w.Code(codes[s])
	}
	r := bitio.New(w.String())
	r.Bits(3)
	at := 3
	for i, s := range symbols {
		at += lens[s]
		if n, e := d.Next(r); n != s || e != api.OK || r.At() != at {
			t.Fatalf("%v: symbol %d of %v: %d, %v, at %d", lens, i, symbols, n, e, r.At())
		}
	}
	if r.At() != w.Len() || r.Err() != api.OK {
		t.Fatalf("%v: at %d of %d, %v", lens, r.At(), w.Len(), r.Err())
	}
}

// having are the symbols that have a code.
func having(lens []int) []int {
	var l []int
	for s, n := range lens {
		if n > 0 {
			l = append(l, s)
		}
	}
	return l
}

func TestWhatIsWrittenIsDecodedAgain(t *testing.T) {
	pick := chance(7)
	check := func(lens []int) {
		t.Helper()
		have := having(lens)
		symbols := slices.Clone(have)
		slices.Reverse(symbols)
		for range min(len(have), 1) * 200 {
			symbols = append(symbols, have[pick(len(have))])
		}
		checkAgain(t, lens, symbols)
	}
	for _, l := range right() {
		check(l)
	}
	for range 300 {
		freqs := make([]int, 1+pick(320))
		for i := range freqs {
			freqs[i] = pick(3) * pick(1<<pick(20))
		}
		lens, e := huffman.Lengths(freqs, 9+pick(7))
		if e != api.OK {
			t.Fatalf("Lengths of %v: %v", freqs, e)
		}
		check(lens)
		// Without some codes, too: then room is left.
		for range 5 {
			lens[pick(len(lens))] = 0
		}
		check(lens)
	}
}

// least is the least cost there is, by trying all lengths up to most that Check takes.
func least(freqs []int, most int) int {
	best := math.MaxInt
	lists(len(freqs), most, func(l []int) {
		for i, n := range freqs {
			if (n == 0) != (l[i] == 0) {
				return
			}
		}
		if _, e := left(l); e == api.OK {
			best = min(best, cost(freqs, l))
		}
	})
	return best
}

// counted is the least cost there is, of any count: level by level, as many places as there are being leaves or not.
func counted(freqs []int, most int) int {
	var come []int
	for _, n := range freqs {
		if n > 0 {
			come = append(come, n)
		}
	}
	slices.Sort(come)
	slices.Reverse(come)
	n := len(come)
	rest := make([]int, n+1) // how often all but the first ones come
	for i := n - 1; i >= 0; i-- {
		rest[i] = rest[i+1] + come[i]
	}
	const never = math.MaxInt / 2
	// By how many symbols have a length yet, and how many places there are.
	row := func() [][]int {
		l := make([][]int, n+1)
		for i := range l {
			l[i] = times(n+1, never)
		}
		return l
	}
	now := row()
	now[0][1] = 0
	best := never
	for range most {
		deeper := row()
		for i := range n {
			for places := range n + 1 {
				to := min(2*places, n-i)
				deeper[i][to] = min(deeper[i][to], now[i][places]+rest[i])
			}
		}
		for i := range n {
			for places := 1; places <= n; places++ {
				deeper[i+1][places-1] = min(deeper[i+1][places-1], deeper[i][places])
			}
		}
		best = min(best, slices.Min(deeper[n]))
		now = deeper
	}
	return best
}

// checkLengths holds lengths against what the chapter says of them, but for the least cost.
func checkLengths(t *testing.T, freqs []int, most int) []int {
	t.Helper()
	kept := slices.Clone(freqs)
	lens, e := huffman.Lengths(freqs, most)
	if e != api.OK || len(lens) != len(freqs) {
		t.Fatalf("Lengths of %v up to %d: %v, %v", freqs, most, lens, e)
	}
	if !slices.Equal(freqs, kept) {
		t.Fatalf("%v was changed", kept)
	}
	for i, n := range freqs {
		if (n == 0) != (lens[i] == 0) || lens[i] < 0 || lens[i] > most {
			t.Fatalf("Lengths of %v up to %d: %v", freqs, most, lens)
		}
	}
	room, e := left(lens)
	want := 0
	switch len(having(freqs)) {
	case 0:
		want = 32768
	case 1:
		want = 16384
	}
	if room != want || e != api.OK {
		t.Fatalf("Lengths of %v up to %d: %v, room %d, %v", freqs, most, lens, room, e)
	}
	if again, _ := huffman.Lengths(freqs, most); !slices.Equal(again, lens) {
		t.Fatalf("Lengths of %v up to %d: %v, and then %v", freqs, most, lens, again)
	}
	return lens
}

func TestLengthsByHand(t *testing.T) {
	for _, x := range []struct {
		freqs []int
		most  int
		want  []int
	}{
		{nil, 1, nil}, {[]int{}, 15, nil}, {[]int{0}, 1, []int{0}}, {make([]int, 320), 1, make([]int, 320)}, {[]int{1}, 1, []int{1}}, {[]int{7}, 15, []int{1}}, {[]int{1 << 30}, 15, []int{1}},
		{[]int{0, 0, 7}, 15, []int{0, 0, 1}}, {[]int{0, 7, 0}, 1, []int{0, 1, 0}}, {[]int{1, 1}, 1, []int{1, 1}}, {[]int{1, 1 << 30}, 15, []int{1, 1}}, {[]int{5, 0, 9}, 15, []int{1, 0, 1}},
		{[]int{1, 2, 4}, 15, []int{2, 2, 1}}, {[]int{4, 2, 1}, 2, []int{1, 2, 2}}, {[]int{8, 4, 2, 1}, 15, []int{1, 2, 3, 3}}, {[]int{8, 4, 2, 1}, 3, []int{1, 2, 3, 3}},
		{[]int{8, 4, 2, 1}, 2, []int{2, 2, 2, 2}}, {[]int{100, 1, 1, 1}, 2, []int{2, 2, 2, 2}}, {[]int{3, 3, 3, 3}, 15, []int{2, 2, 2, 2}}, {[]int{16, 8, 4, 2, 1}, 4, []int{1, 2, 3, 4, 4}},
		{[]int{16, 8, 4, 2, 1}, 3, []int{1, 3, 3, 3, 3}}, {[]int{1, 17, 0, 8, 3, 2}, 15, []int{4, 1, 0, 2, 3, 4}},
	} {
		if got := checkLengths(t, x.freqs, x.most); !slices.Equal(got, x.want) {
			t.Errorf("Lengths of %v up to %d: %v, want %v", x.freqs, x.most, got, x.want)
		}
	}
}

func TestLengthsAreTheBestOfAll(t *testing.T) {
	pick := chance(11)
	for n := range 5 {
		for most := 1; most <= 4; most++ {
			lists(n, 5, func(freqs []int) {
				freqs = slices.Clone(freqs)
				for i, v := range freqs {
					freqs[i] = []int{0, 1, 2, 3, 9, 50}[v]
				}
				if n == 4 && pick(4) > 0 { // some of them will do
					return
				}
				checkBest(t, freqs, most)
			})
		}
	}
	for range 60 {
		freqs := make([]int, 6)
		for i := range freqs {
			freqs[i] = pick(1 << pick(12))
		}
		checkBest(t, freqs, 3)
		checkBest(t, freqs, 5)
	}
}

func checkBest(t *testing.T, freqs []int, most int) {
	t.Helper()
	if len(having(freqs)) > 1<<most {
		if l, e := huffman.Lengths(freqs, most); len(l) != 0 || e != api.ErrLengths {
			t.Fatalf("Lengths of %v up to %d: %v, %v", freqs, most, l, e)
		}
		return
	}
	lens := checkLengths(t, freqs, most)
	if got, want := cost(freqs, lens), least(freqs, most); got != want {
		t.Fatalf("Lengths of %v up to %d: %v cost %d, want %d", freqs, most, lens, got, want)
	}
}

// steep are counts each of which is as much as all ahead of it together, or the two ahead of it.
func steep(n int, fibonacci bool) []int {
	l := []int{1, 1}
	for len(l) < n {
		v := 2 * l[len(l)-1]
		if fibonacci {
			v = l[len(l)-1] + l[len(l)-2]
		}
		l = append(l, min(v, 1<<30))
	}
	return l[:n]
}

func TestLengthsOfManyAreTheBestOfAll(t *testing.T) {
	pick := chance(13)
	check := func(freqs []int, most int) {
		t.Helper()
		lens := checkLengths(t, freqs, most)
		if got, want := cost(freqs, lens), counted(freqs, most); len(having(freqs)) > 1 && got != want {
			t.Errorf("Lengths of %v up to %d: %v cost %d, want %d", freqs, most, lens, got, want)
		}
	}
	for most := 1; most <= 15; most++ {
		for n := 2; n <= min(40, 1<<most); n++ {
			check(steep(n, false), most)
			check(steep(n, true), most)
		}
		all := min(320, 1<<most)
		check(times(all, 1), most)
		check(times(all, 1<<30), most)
		check(append(times(all-1, 1), 1<<30), most)
		check(append(times(all/2, 1<<30), times(all-all/2, 1)...), most)
		for range 6 {
			freqs := make([]int, 320)
			for range all {
				freqs[pick(320)] = 1 + pick(1<<pick(30))
			}
			check(freqs, most)
		}
	}
	check(slices.Repeat(steep(32, false), 10), 15)
	check(slices.Repeat(steep(32, false), 10), 9)
}

// row is counts from the least one on.
type row []int

func (r row) Len() int           { return len(r) }
func (r row) Less(i, j int) bool { return r[i] < r[j] }
func (r row) Swap(i, j int)      { r[i], r[j] = r[j], r[i] }
func (r *row) Push(x any)        { *r = append(*r, x.(int)) }
func (r *row) Pop() any {
	last := (*r)[len(*r)-1]
	*r = (*r)[:len(*r)-1]
	return last
}

func TestLengthsAreHuffmansWhereThoseAreShort(t *testing.T) {
	pick := chance(17)
	for range 200 {
		freqs := make([]int, 2+pick(319))
		for i := range freqs {
			freqs[i] = 1 + pick(50) // so near each other that no code has more than 15 bits
		}
		h := row(slices.Clone(freqs))
		heap.Init(&h)
		want := 0
		for h.Len() > 1 {
			both := heap.Pop(&h).(int) + heap.Pop(&h).(int)
			want += both
			heap.Push(&h, both)
		}
		if got := cost(freqs, checkLengths(t, freqs, 15)); got != want {
			t.Errorf("Lengths of %v: cost %d, want %d", freqs, got, want)
		}
	}
}

func TestLengthsOfWhatMayNotBe(t *testing.T) {
	good := []int{3, 1, 2}
	for _, x := range []struct {
		freqs []int
		most  int
		e     api.Errno
	}{
		{make([]int, 321), 15, api.ErrArg}, {times(321, 1), 15, api.ErrArg}, {make([]int, 100000), 15, api.ErrArg}, {[]int{-1}, 15, api.ErrArg}, {[]int{1, 1, -1}, 15, api.ErrArg},
		{[]int{math.MinInt}, 15, api.ErrArg}, {[]int{math.MaxInt}, 15, api.ErrArg}, {[]int{1<<30 + 1}, 15, api.ErrArg}, {[]int{0, 1<<30 + 1, 0}, 15, api.ErrArg}, {[]int{1 << 32}, 15, api.ErrArg},
		{[]int{-1 << 32, 1}, 15, api.ErrArg}, {good, 0, api.ErrArg}, {good, 16, api.ErrArg}, {good, -1, api.ErrArg}, {good, math.MinInt, api.ErrArg}, {good, math.MaxInt, api.ErrArg}, {good, 64, api.ErrArg},
		{good, 1 << 32, api.ErrArg}, {nil, 0, api.ErrArg}, {nil, 16, api.ErrArg}, {[]int{0}, -1, api.ErrArg}, {[]int{1}, 0, api.ErrArg},
		{good, 1, api.ErrLengths}, {[]int{1, 0, 1, 0, 1}, 1, api.ErrLengths}, {times(5, 1), 2, api.ErrLengths}, {times(9, 7), 3, api.ErrLengths}, {times(257, 1), 8, api.ErrLengths},
		{times(320, 1<<30), 8, api.ErrLengths}, {times(320, 1), 1, api.ErrLengths},
		// Too many come, but what can't be asked at all is found ahead of that.
		{append(times(5, 1), -1), 2, api.ErrArg}, {append(times(5, 1), 1<<30+1), 2, api.ErrArg}, {times(321, 1), 2, api.ErrArg}, {times(5, 1), 0, api.ErrArg}, {times(5, 1), -1, api.ErrArg},
	} {
		kept := slices.Clone(x.freqs)
		if l, e := huffman.Lengths(x.freqs, x.most); len(l) != 0 || e != x.e {
			t.Errorf("Lengths of %.40v up to %d: %v, %v; want %v", x.freqs, x.most, l, e, x.e)
		}
		if !slices.Equal(x.freqs, kept) {
			t.Errorf("%.40v was changed", kept)
		}
	}
}

func TestLengthsOfJustAsManyAsThereMayBe(t *testing.T) {
	for most := 1; most <= 8; most++ {
		lens := checkLengths(t, times(1<<most, 5), most)
		if !slices.Equal(lens, times(1<<most, most)) {
			t.Errorf("%d up to %d: %v", 1<<most, most, lens)
		}
		// What never comes does not count.
		freqs := append(make([]int, 320-1<<most), steep(1<<most, false)...)
		lens = checkLengths(t, freqs, most)
		if !slices.Equal(lens, append(make([]int, 320-1<<most), times(1<<most, most)...)) {
			t.Errorf("%d of 320 up to %d: %v", 1<<most, most, lens)
		}
	}
	checkLengths(t, times(320, 1<<30), 9)
}

func TestAnswersShareNothing(t *testing.T) {
	lens := []int{3, 3, 3, 3, 3, 2, 4, 4}
	d, _ := huffman.New(lens)
	codes, _ := huffman.Codes(lens)
	for i := range lens {
		lens[i] = 1
	}
	again, _ := huffman.Codes([]int{3, 3, 3, 3, 3, 2, 4, 4})
	if !slices.Equal(codes, again) {
		t.Errorf("codes change with lengths: %v", codes)
	}
	for i := range codes {
		codes[i] = api.Code{}
	}
	if n, e := d.Next(bitio.New(packed("1110"))); n != 6 || e != api.OK {
		t.Errorf("a decoder changes with lengths: %d, %v", n, e)
	}
	freqs := []int{8, 1, 1, 2}
	a, _ := huffman.Lengths(freqs, 15)
	b, _ := huffman.Lengths(freqs, 15)
	a[0], freqs[1] = 7, 9
	if !slices.Equal(b, []int{1, 3, 3, 2}) || !slices.Equal(a, []int{7, 3, 3, 2}) {
		t.Error(a, b)
	}
}

func TestDecodersKnowNothingOfEachOther(t *testing.T) {
	a, _ := huffman.New([]int{1, 1})
	b, _ := huffman.New([]int{0, 0, 2, 2, 1})
	r := bitio.New(packed("1" + "11" + "0" + "0"))
	for i, x := range []struct {
		d    *huffman.Decoder
		want int
	}{{a, 1}, {b, 3}, {a, 0}, {b, 4}} {
		if n, e := x.d.Next(r); n != x.want || e != api.OK {
			t.Errorf("%d: %d, %v", i, n, e)
		}
	}
	// An error is the reader's, or the bits': a decoder keeps none.
	if n, e := a.Next(bitio.New("")); n != 0 || e != api.ErrMore {
		t.Error(n, e)
	}
	if n, e := a.Next(bitio.New("\x01")); n != 1 || e != api.OK {
		t.Error(n, e)
	}
}

func TestOneDecoderForManyAtATime(t *testing.T) {
	lens := []int{3, 3, 3, 3, 3, 2, 4, 4}
	d, _ := huffman.New(lens)
	s := packed(strings.Repeat(strings.Join(words(t, lens), ""), 50))
	got := make([]int, 8)
	var all sync.WaitGroup
	for i := range got {
		all.Go(func() {
			r := bitio.New(s)
			for k := range 400 {
				if n, e := d.Next(r); n != k%8 || e != api.OK {
					got[i]++
				}
			}
		})
	}
	all.Wait()
	if !slices.Equal(got, make([]int, 8)) {
		t.Error(got)
	}
}

func BenchmarkLengths(b *testing.B) {
	freqs := slices.Repeat(steep(32, false), 10)
	for b.Loop() {
		huffman.Lengths(freqs, 15)
	}
}

func FuzzAll(f *testing.F) {
	f.Add("\x03\x03\x03\x03\x03\x02\x04\x04", "\x5d\x03", 15)
	f.Add("", "", 0)
	f.Add("\x01\x01\x0f", "\xff", 1)
	f.Fuzz(func(t *testing.T, numbers, s string, most int) {
		var l []int
		for i := range len(numbers) {
			l = append(l, int(int8(numbers[i])))
		}
		checkDecoding(t, l, s)
		if lens, e := huffman.Lengths(l, most); e == api.OK {
			checkLengths(t, l, most)
			checkDecoding(t, lens, s)
			if n := len(having(l)); n > 1 && cost(l, lens) != counted(l, most) {
				t.Errorf("Lengths of %v up to %d: %v", l, most, lens)
			}
		} else if e != api.ErrArg && e != api.ErrLengths || lens != nil {
			t.Errorf("Lengths of %v up to %d: %v, %v", l, most, lens, e)
		}
	})
}

func checkDecoding(t *testing.T, lens []int, s string) {
	room, fault := left(lens)
	if n, e := huffman.Check(lens); n != room || e != fault {
		t.Fatalf("Check of %v: %d, %v; want %d, %v", lens, n, e, room, fault)
	}
	d, e := huffman.New(lens)
	if e != fault || (d == nil) != (e != api.OK) {
		t.Fatalf("New of %v: %v", lens, e)
	}
	if fault != api.OK {
		return
	}
	codes := words(t, lens)
	checkCodes(t, lens)
	r := bitio.New(s)
	for range 50 {
		probe := bitio.New(s)
		for range r.At() {
			probe.Bits(1)
		}
		rest := ""
		for range min(20, probe.Left()) {
			rest += string('0' + rune(probe.Bits(1)))
		}
		symbol, passed, fault := next(codes, rest)
		at := r.At()
		if n, e := d.Next(r); n != symbol || e != fault || r.At() != at+passed {
			t.Fatalf("Next of %v at %s: %d, %v, %d passed; want %d, %v, %d", lens, rest, n, e, r.At()-at, symbol, fault, passed)
		}
		if fault != api.OK {
			return
		}
	}
}

// The layer stands on api and bitio alone, and on what the library sorts by: so it can ask no clock, no chance, no file and no network.
func TestSourceStandsOnApiAndBitioAlone(t *testing.T) {
	src, err := os.ReadFile("huffman.go")
	if err != nil {
		t.Fatal(err)
	}
	f, err := parser.ParseFile(token.NewFileSet(), "huffman.go", src, parser.ImportsOnly)
	if err != nil {
		t.Fatal(err)
	}
	for _, i := range f.Imports {
		if !slices.Contains([]string{`"mirador/api"`, `"mirador/bitio"`, `"slices"`, `"sort"`}, i.Path.Value) {
			t.Errorf("import of %s", i.Path.Value)
		}
	}
	if tidy, err := format.Source(src); err != nil || string(tidy) != string(src) {
		t.Errorf("not gofmt's layout: %v", err)
	}
}
