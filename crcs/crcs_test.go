package crcs_test

import (
	"go/format"
	"go/parser"
	"go/token"
	"hash/crc32"
	"math"
	"os"
	"slices"
	"strings"
	"sync"
	"testing"

	"mirador/crcs"
)

// Numbers at and around the edges of 32 bits, and far beyond them.
var numbers = []int{
	math.MinInt, math.MinInt + 1, -1<<40 - 1, -1<<32 - 1, -1 << 32, -1<<32 + 1, -1<<31 - 1, -1 << 31, -256, -255, -2, -1,
	0, 1, 2, 127, 128, 255, 256, 257, 65535, 65536, 0x2144df1c, 0xcbf43926, 0xedb88320,
	1<<31 - 1, 1 << 31, 1<<31 + 1, 1<<32 - 2, 1<<32 - 1, 1 << 32, 1<<32 + 1, 1 << 40, 1<<40 | 0xcbf43926,
	math.MaxInt - 1, math.MaxInt,
}

func texts() []string {
	var all []byte
	for i := range 256 {
		all = append(all, byte(i))
	}
	return []string{
		"", "\x00", "\x01", "\x7f", "\x80", "\xff", "a", "abc", "123456789", "IEND", "\x00\x00\x00\x00", "\xff\xff\xff\xff",
		"\x80\x7f\xc3\xbc\xed\xa0\x80", string(all), strings.Repeat("\x00", 257), strings.Repeat("\xff", 4096),
		strings.Repeat(string(all), 300),
	}
}

// broken are tables that have not 256 numbers.
func broken() []crcs.Table {
	m := crcs.Make()
	return []crcs.Table{
		nil, {}, {0}, {1, 2}, m[:1], m[:128], m[:255], m[1:], append(slices.Clone(m), 0), append(slices.Clone(m), m...),
		make(crcs.Table, 255), make(crcs.Table, 257), make(crcs.Table, 0, 256), make(crcs.Table, 1<<16),
	}
}

// strange are tables of 256 numbers that are not Make's.
func strange() []crcs.Table {
	zeros, places, below, beyond := make(crcs.Table, 256), make(crcs.Table, 256), make(crcs.Table, 256), make(crcs.Table, 256)
	for i, n := range crcs.Make() {
		places[i] = i
		below[i] = -n - 1
		beyond[i] = n<<31 | i
	}
	edges := make(crcs.Table, 256)
	for i := range edges {
		edges[i] = numbers[i%len(numbers)]
	}
	return []crcs.Table{zeros, places, below, beyond, edges}
}

// made is the chapter's rule for the number at a place, by halves.
func made(n uint64) int {
	for range 8 {
		odd := n%2 == 1
		n /= 2
		if odd {
			n ^= 3988292384
		}
	}
	return int(n)
}

// behind is the chapter's rule for More, by numbers that are cut to 32 bits each time.
func behind(t crcs.Table, c int, s string) int {
	const all = 1 << 32
	n := uint64(c) % all
	for _, b := range []byte(s) {
		n = uint64(t[(n^uint64(b))%256])%all ^ n/256
	}
	return int(n)
}

func TestExamples(t *testing.T) {
	m := crcs.Make()
	for _, x := range []struct {
		s    string
		want int
	}{
		{"123456789", 3421780262},
		{"", 0},
		{"\x00", 0xd202ef8d},
		{"\xff", 0xff000000},
		{"\xff\xff\xff\xff", 0xffffffff},
		{"\x00\x00\x00\x00", 0x2144df1c},
		{"a", 0xe8b7be43},
		{"abc", 0x352441c2},
		{"IEND", 0xae426082},
	} {
		if n := m.Sum(x.s); n != x.want {
			t.Errorf("Sum of %q: %#x, want %#x", x.s, n, x.want)
		}
		if n := m.More(4294967295, x.s) ^ 4294967295; n != x.want {
			t.Errorf("More of %q: %#x, want %#x", x.s, n, x.want)
		}
	}
}

func TestMakeIsEightStepsOfEachByte(t *testing.T) {
	m := crcs.Make()
	if len(m) != 256 {
		t.Fatalf("%d numbers", len(m))
	}
	for i, n := range m {
		if n != made(uint64(i)) || n != int(crc32.IEEETable[i]) {
			t.Errorf("number %d: %#x, want %#x", i, n, made(uint64(i)))
		}
	}
	for i, want := range map[int]int{0: 0, 1: 0x77073096, 2: 0xee0e612c, 128: 0xedb88320, 254: 0x5a05df1b, 255: 0x2d02ef8d} {
		if m[i] != want {
			t.Errorf("number %d: %#x, want %#x", i, m[i], want)
		}
	}
}

func TestTablesShareNothing(t *testing.T) {
	a, b := crcs.Make(), crcs.Make()
	for i := range a {
		a[i] = -1
	}
	_ = append(a, 7)
	if b[1] != 0x77073096 || crcs.Make()[255] != 0x2d02ef8d || b.Sum("123456789") != 0xcbf43926 {
		t.Error("one table changes another")
	}
	if n := crcs.Table(nil).Sum("123456789"); n != 0xcbf43926 {
		t.Errorf("a table changes what counts for none: %#x", n)
	}
}

func TestSumIsCRC32(t *testing.T) {
	m := crcs.Make()
	for _, s := range texts() {
		if n, want := m.Sum(s), int(crc32.ChecksumIEEE([]byte(s))); n != want {
			t.Errorf("Sum of %.9q, %d bytes: %#x, want %#x", s, len(s), n, want)
		}
	}
	for i := range 256 {
		s := string([]byte{byte(i)})
		if n, want := m.Sum(s), int(crc32.ChecksumIEEE([]byte(s))); n != want {
			t.Errorf("Sum of byte %d: %#x, want %#x", i, n, want)
		}
	}
}

func TestSumOfNothing(t *testing.T) {
	m := crcs.Make()
	if m.Sum() != 0 || m.Sum("", "", "") != 0 || m.Sum([]string{}...) != 0 || m.Sum([]string(nil)...) != 0 {
		t.Errorf("%d, %d", m.Sum(), m.Sum("", "", ""))
	}
	for _, b := range append(broken(), strange()...) {
		if b.Sum() != 0 || b.Sum("") != 0 {
			t.Errorf("a table of %d: %d, %d", len(b), b.Sum(), b.Sum(""))
		}
	}
}

func TestMoreByHand(t *testing.T) {
	m := crcs.Make()
	for _, x := range []struct {
		c    int
		s    string
		want int
	}{
		{0, "\x00", 0},
		{0, "\x00\x00\x00\x00", 0},
		{0, "\x01", 0x77073096},
		{0, "\x80", 0xedb88320},
		{1, "\x01", 0},
		{1, "\x00", 0x77073096},
		{0x100, "\x00", 1},
		{0x100, "\x01", 0x77073097},
		{0xff00, "\xff", 0x2d02ef72},
		{0x80000000, "\x00", 0x00800000},
		{0xffffffff, "\xff", 0x00ffffff},
		{0xffffffff, "\xff\xff\xff\xff", 0},
		{0xffffffff, "\x00", 0x2dfd1072},
	} {
		if n := m.More(x.c, x.s); n != x.want {
			t.Errorf("More of %#x and %q: %#x, want %#x", x.c, x.s, n, x.want)
		}
	}
}

func TestMoreTakesTheLowest32BitsOfASum(t *testing.T) {
	m := crcs.Make()
	for _, x := range []struct{ c, want int }{
		{-1, 1<<32 - 1}, {1<<32 - 1, 1<<32 - 1}, {1 << 32, 0}, {1<<32 + 7, 7}, {-1 << 32, 0}, {-1 << 31, 1 << 31}, {1 << 40, 0},
		{1<<40 | 0xcbf43926, 0xcbf43926}, {math.MaxInt, 1<<32 - 1}, {math.MinInt, 0}, {math.MinInt + 1, 1}, {0, 0},
	} {
		if n := m.More(x.c, ""); n != x.want {
			t.Errorf("More of %d and nothing: %d, want %d", x.c, n, x.want)
		}
	}
	for _, c := range numbers {
		for _, s := range texts() {
			if n, want := m.More(c, s), behind(m, c, s); n != want {
				t.Errorf("More of %d and %.9q: %#x, want %#x", c, s, n, want)
			}
		}
	}
}

func TestATableThatHasNot256NumbersCountsAsMakes(t *testing.T) {
	m := crcs.Make()
	for _, b := range broken() {
		kept := slices.Clone(b)
		for _, s := range texts() {
			if n, want := b.Sum(s), m.Sum(s); n != want {
				t.Errorf("a table of %d, Sum of %.9q: %#x, want %#x", len(b), s, n, want)
			}
			if n, want := b.Sum(s, "", s), m.Sum(s+s); n != want {
				t.Errorf("a table of %d, Sum of %.9q twice: %#x, want %#x", len(b), s, n, want)
			}
		}
		for _, c := range numbers {
			if n, want := b.More(c, "abc"), m.More(c, "abc"); n != want {
				t.Errorf("a table of %d, More of %d: %#x, want %#x", len(b), c, n, want)
			}
			if n, want := b.More(c, ""), m.More(c, ""); n != want {
				t.Errorf("a table of %d, More of %d and nothing: %#x, want %#x", len(b), c, n, want)
			}
		}
		if !slices.Equal(b, kept) {
			t.Errorf("a table of %d was changed", len(b))
		}
	}
}

func TestATableOf256NumbersCountsAsItIs(t *testing.T) {
	for k, x := range strange() {
		kept := slices.Clone(x)
		for _, s := range texts() {
			for _, c := range numbers {
				if n, want := x.More(c, s), behind(x, c, s); n != want {
					t.Fatalf("table %d, More of %d and %.9q: %#x, want %#x", k, c, s, n, want)
				}
			}
			if n, want := x.Sum(s), behind(x, 0xffffffff, s)^0xffffffff; n != want {
				t.Errorf("table %d, Sum of %.9q: %#x, want %#x", k, s, n, want)
			}
		}
		if !slices.Equal(x, kept) {
			t.Errorf("table %d was changed", k)
		}
	}
	// Without a table's help bytes just go down, out of the sum.
	zeros := make(crcs.Table, 256)
	if a, b := zeros.More(0x12345678, "x"), zeros.More(-1, "abcd"); a != 0x123456 || b != 0 {
		t.Errorf("%#x, %#x", a, b)
	}
}

func TestATablesNumbersHave32Bits(t *testing.T) {
	high := make(crcs.Table, 256)
	for i := range high {
		high[i] = -1 << 32
	}
	// What is above 32 bits neither comes out nor goes down into them.
	if a, b := high.More(0, "ab"), high.Sum("abcd"); a != 0 || b != 0xffffffff {
		t.Errorf("%#x, %#x", a, b)
	}
}

func TestASumOfPartsIsTheSumOfTheWhole(t *testing.T) {
	tables := append(append(broken()[:5], strange()...), crcs.Make())
	for k, x := range tables {
		for _, s := range texts() {
			want := x.Sum(s)
			for _, cut := range []int{0, 1, 2, len(s) / 3, len(s) / 2, len(s) - 1, len(s)} {
				cut = min(max(cut, 0), len(s))
				a, b := s[:cut], s[cut:]
				if n := x.Sum(a, b); n != want {
					t.Errorf("table %d, Sum of %.9q cut at %d: %#x, want %#x", k, s, cut, n, want)
				}
				if n := x.Sum("", a, "", b[:len(b)/2], b[len(b)/2:], ""); n != want {
					t.Errorf("table %d, Sum of %.9q in six parts, by %d: %#x, want %#x", k, s, cut, n, want)
				}
				if n := x.More(x.More(0xffffffff, a), b) ^ 0xffffffff; n != want {
					t.Errorf("table %d, More of %.9q behind %d bytes: %#x, want %#x", k, s, cut, n, want)
				}
			}
		}
	}
	s := "a screen that is seen elsewhere"
	if n := crcs.Make().Sum(strings.Split(s, "")...); n != int(crc32.ChecksumIEEE([]byte(s))) {
		t.Errorf("byte by byte: %#x", n)
	}
}

func TestPartsCountInTheirOrder(t *testing.T) {
	m := crcs.Make()
	if x, y := m.Sum("ab", "cd"), m.Sum("cd", "ab"); x == y || x != m.Sum("abcd") || y != m.Sum("cdab") {
		t.Errorf("%#x, %#x", x, y)
	}
}

func TestATextWithItsSumBehindHasOneRest(t *testing.T) {
	// The rest that readers of CRC-32 know: the sum's least byte goes first.
	m := crcs.Make()
	for _, s := range texts() {
		n := m.Sum(s)
		tail := string([]byte{byte(n), byte(n >> 8), byte(n >> 16), byte(n >> 24)})
		if rest := m.Sum(s, tail); rest != 0x2144df1c {
			t.Errorf("%.9q: %#x", s, rest)
		}
	}
}

func TestLongTexts(t *testing.T) {
	s := strings.Repeat("\xff\xfe\x00\x80", 1<<20)
	if n, want := crcs.Make().Sum(s), int(crc32.ChecksumIEEE([]byte(s))); n != want {
		t.Errorf("%#x, want %#x", n, want)
	}
	parts := strings.Split(s, "")
	if n, want := crcs.Table(nil).Sum(parts...), int(crc32.ChecksumIEEE([]byte(strings.Join(parts, "")))); n != want {
		t.Errorf("in %d parts: %#x, want %#x", len(parts), n, want)
	}
}

func TestAnswersHave32Bits(t *testing.T) {
	for _, x := range append(append(broken(), strange()...), crcs.Make()) {
		for _, c := range numbers {
			for _, s := range []string{"", "\x00", "\xff\xff", "123456789"} {
				if n := x.More(c, s); n < 0 || n >= 1<<32 {
					t.Errorf("More of %d and %q: %d is beyond 32 bits", c, s, n)
				}
				if n := x.Sum(s, s); n < 0 || n >= 1<<32 {
					t.Errorf("Sum of %q twice: %d is beyond 32 bits", s, n)
				}
			}
		}
	}
}

func TestSumLeavesItsPartsAndItsTableAlone(t *testing.T) {
	m := crcs.Make()
	parts := []string{"a", "", "bc"}
	first, again := m.Sum(parts...), m.Sum(parts...)
	if first != 0x352441c2 || again != first || strings.Join(parts, "|") != "a||bc" || !slices.Equal(m, crcs.Make()) {
		t.Errorf("%#x, %#x, %q", first, again, parts)
	}
}

func TestOneTableForManyAtATime(t *testing.T) {
	m := crcs.Make()
	got := make([]int, 8)
	var all sync.WaitGroup
	for i := range got {
		all.Go(func() { got[i] = m.Sum(strings.Repeat("123456789", 100)) + crcs.Table(nil).Sum("a") })
	}
	all.Wait()
	want := int(crc32.ChecksumIEEE([]byte(strings.Repeat("123456789", 100)))) + 0xe8b7be43
	for i, n := range got {
		if n != want {
			t.Errorf("%d: %#x, want %#x", i, n, want)
		}
	}
}

func FuzzSum(f *testing.F) {
	for _, s := range texts() {
		f.Add(s, len(s)/2)
	}
	m := crcs.Make()
	f.Fuzz(func(t *testing.T, s string, at int) {
		cut := min(max(at, 0), len(s))
		if n, want := m.Sum(s[:cut], s[cut:]), int(crc32.ChecksumIEEE([]byte(s))); n != want {
			t.Errorf("Sum of %q cut at %d: %#x, want %#x", s, cut, n, want)
		}
		if n, want := m.More(at, s), behind(m, at, s); n != want {
			t.Errorf("More of %d and %q: %#x, want %#x", at, s, n, want)
		}
	})
}

// The layer stands on api alone: so it can ask no clock, no chance, no file and no network.
func TestSourceStandsOnApiAlone(t *testing.T) {
	src, err := os.ReadFile("crcs.go")
	if err != nil {
		t.Fatal(err)
	}
	f, err := parser.ParseFile(token.NewFileSet(), "crcs.go", src, parser.ImportsOnly)
	if err != nil {
		t.Fatal(err)
	}
	for _, i := range f.Imports {
		if i.Path.Value != `"mirador/api"` {
			t.Errorf("import of %s", i.Path.Value)
		}
	}
	if tidy, err := format.Source(src); err != nil || string(tidy) != string(src) {
		t.Errorf("not gofmt's layout: %v", err)
	}
}
