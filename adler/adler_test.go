package adler_test

import (
	"go/format"
	"go/parser"
	"go/token"
	"hash/adler32"
	"math"
	"math/big"
	"os"
	"strings"
	"testing"

	"mirador/adler"
)

// Sums, and numbers that are none, at and around the edges, and far beyond 32 bits.
var sums = []int{
	math.MinInt, math.MinInt + 1, -1<<32 - 1, -1 << 32, -1<<31 - 1, -1 << 31, -65536, -65521, -2, -1,
	0, 1, 2, 255, 256, 65519, 65520, 65521, 65522, 65535, 65536, 65537,
	65520<<16 | 65520, 65520<<16 | 65521, 65521<<16 | 65520, 65521 << 16, 65521<<16 | 1, 65521<<16 | 65521,
	65535<<16 | 65535, 65535 << 16, 0x11e60398, 0x7fffffff, 0x80000000, 0x80000001,
	1<<32 - 1, 1 << 32, 1<<32 + 1, 1<<40 | 0x11e60398, math.MaxInt - 1, math.MaxInt,
}

var lengths = []int{
	math.MinInt, math.MinInt + 1, -1 << 32, -65522, -65521, -65520, -2, -1, 0, 1, 2, 3, 255, 5552, 65519, 65520,
	65521, 65522, 65535, 65536, 131041, 131042, 131043, 1<<31 - 1, 1 << 31, 1 << 32, 1<<46 + 3,
	65521 * 65521, 1 << 62, math.MaxInt - 65521, math.MaxInt - 1, math.MaxInt,
}

func texts() []string {
	var all []byte
	for i := range 256 {
		all = append(all, byte(i))
	}
	return []string{
		"", "\x00", "\x01", "\xff", "a", "abc", "Wikipedia", "\x00\x00\x00\x00", "\x80\x7f\xc3\xbc", string(all),
		strings.Repeat("\xff", 256), strings.Repeat("\xff", 257), strings.Repeat("\xff", 5552), strings.Repeat("\xff", 5553),
		strings.Repeat("\x00", 65521), strings.Repeat(string(all), 300), strings.Repeat("\xff", 70000),
	}
}

// behind is the sum as the chapter says it: byte by byte, from two numbers on.
func behind(a, b uint64, s string) int {
	for _, c := range []byte(s) {
		a = (a + uint64(c)) % 65521
		b = (b + a) % 65521
	}
	return int(b*65536 + a)
}

// parted is A and B of a number's lowest 32 bits.
func parted(n int) (uint64, uint64) {
	u := uint64(n) % (1 << 32)
	return u % 65536, u / 65536
}

// joined is Join's rule, in numbers of any size.
func joined(a, b, n int) int {
	number := func(u uint64) *big.Int { return new(big.Int).SetUint64(u) }
	a1, b1 := parted(a)
	a2, b2 := parted(b)
	low := new(big.Int).Add(number(a1), number(a2))
	low.Sub(low, big.NewInt(1))
	high := new(big.Int).Sub(number(a1), big.NewInt(1))
	high.Mul(high, big.NewInt(int64(max(n, 0))))
	high.Add(high, number(b1))
	high.Add(high, number(b2))
	// Mod, other than Rem, is never below 0.
	base := big.NewInt(65521)
	return int(high.Mod(high, base).Int64())*65536 + int(low.Mod(low, base).Int64())
}

func TestExamples(t *testing.T) {
	for _, x := range []struct {
		s    string
		want int
	}{
		{"", 1},
		{"Wikipedia", 300286872},
		{"a", 0x00620062},
		{"abc", 0x024d0127},
		{"\x00", 0x00010001},
		{"\x00\x00\x00", 0x00030001},
		{"\xff", 0x01000100},
	} {
		if n := adler.Sum(x.s); n != x.want {
			t.Errorf("Sum of %q: %d, want %d", x.s, n, x.want)
		}
		if n := adler.More(adler.Start, x.s); n != x.want {
			t.Errorf("More of Start and %q: %d, want %d", x.s, n, x.want)
		}
	}
}

func TestStartIsTheSumOfNothing(t *testing.T) {
	if adler.Start != 1 || adler.Sum() != 1 || adler.Sum("", "", "") != 1 || adler.Sum([]string{}...) != 1 {
		t.Errorf("%d, %d, %d", adler.Start, adler.Sum(), adler.Sum("", "", ""))
	}
}

func TestSumIsAdler32(t *testing.T) {
	for _, s := range texts() {
		if n, want := adler.Sum(s), int(adler32.Checksum([]byte(s))); n != want {
			t.Errorf("Sum of %.9q, %d bytes: %d, want %d", s, len(s), n, want)
		}
	}
}

func TestEachHalfWrapsRoundAtItsBase(t *testing.T) {
	for _, x := range []struct {
		sum  int
		s    string
		want int
	}{
		{65520, "\x00", 65520<<16 | 65520},
		{65520, "\x01", 0},
		{65520, "\x02", 1<<16 | 1},
		{65519, "\x01", 65520<<16 | 65520},
		{65520 << 16, "\x00", 65520 << 16},
		{65520 << 16, "\x01", 1},
		{65519 << 16, "\x01", 65520<<16 | 1},
		{65520<<16 | 65520, "\x00", 65519<<16 | 65520},
		{65520<<16 | 65520, "\xff", 253<<16 | 254},
	} {
		if n := adler.More(x.sum, x.s); n != x.want {
			t.Errorf("More of %#x and %q: %#x, want %#x", x.sum, x.s, n, x.want)
		}
	}
}

func TestMoreTakesTheLowest32BitsOfASum(t *testing.T) {
	for _, sum := range sums {
		a, b := parted(sum)
		for _, s := range texts()[:11] {
			if n, want := adler.More(sum, s), behind(a, b, s); n != want {
				t.Errorf("More of %d and %.9q: %d, want %d", sum, s, n, want)
			}
		}
	}
}

func TestMoreOfNoBytesLeavesHalvesAsTheyAre(t *testing.T) {
	for _, x := range []struct{ sum, want int }{
		{0, 0}, {1, 1}, {65521, 65521}, {65535, 65535}, {65521 << 16, 65521 << 16}, {65521<<16 | 65521, 65521<<16 | 65521},
		{1<<32 - 1, 1<<32 - 1}, {-1, 1<<32 - 1}, {1 << 32, 0}, {1<<32 + 7, 7}, {-1 << 32, 0}, {-1 << 31, 1 << 31},
		{math.MaxInt, 1<<32 - 1}, {math.MinInt, 0}, {math.MinInt + 1, 1},
	} {
		if n := adler.More(x.sum, ""); n != x.want {
			t.Errorf("More of %d and nothing: %d, want %d", x.sum, n, x.want)
		}
	}
}

func TestMoreOfHalvesBeyondTheirBase(t *testing.T) {
	for _, x := range []struct {
		sum  int
		s    string
		want int
	}{
		{65521, "\x00", 0},
		{65535, "\x00", 14<<16 | 14},
		{65535, "\x01", 15<<16 | 15},
		{65521 << 16, "\x00", 0},
		{65535 << 16, "\x00", 14 << 16},
		{1<<32 - 1, "\x00", 28<<16 | 14},
		{-1, "a", 125<<16 | 111},
	} {
		if n := adler.More(x.sum, x.s); n != x.want {
			t.Errorf("More of %#x and %q: %#x, want %#x", x.sum, x.s, n, x.want)
		}
	}
}

func TestSumOfPartsIsTheSumOfTheWhole(t *testing.T) {
	for _, s := range texts() {
		want := behind(1, 0, s)
		for _, cut := range []int{0, 1, 2, len(s) / 3, len(s) / 2, len(s) - 1, len(s)} {
			cut = min(max(cut, 0), len(s))
			a, b := s[:cut], s[cut:]
			if n := adler.Sum(a, b); n != want {
				t.Errorf("Sum of %.9q cut at %d: %d, want %d", s, cut, n, want)
			}
			if n := adler.Sum("", a, "", b[:len(b)/2], b[len(b)/2:], ""); n != want {
				t.Errorf("Sum of %.9q in six parts, by %d: %d, want %d", s, cut, n, want)
			}
			if n := adler.More(adler.Sum(a), b); n != want {
				t.Errorf("More of %.9q behind %d bytes: %d, want %d", s, cut, n, want)
			}
			if n := adler.Join(adler.Sum(a), adler.Sum(b), len(b)); n != want {
				t.Errorf("Join of %.9q cut at %d: %d, want %d", s, cut, n, want)
			}
		}
	}
	s := "a screen that is seen elsewhere"
	if n := adler.Sum(strings.Split(s, "")...); n != behind(1, 0, s) {
		t.Errorf("byte by byte: %d", n)
	}
}

func TestPartsCountInTheirOrder(t *testing.T) {
	if x, y := adler.Sum("ab", "cd"), adler.Sum("cd", "ab"); x == y || x != adler.Sum("abcd") || y != adler.Sum("cdab") {
		t.Errorf("%d, %d", x, y)
	}
	a, b := adler.Sum("ab"), adler.Sum("cde")
	if x, y := adler.Join(a, b, 3), adler.Join(b, a, 2); x != adler.Sum("abcde") || y != adler.Sum("cdeab") {
		t.Errorf("%d, %d", x, y)
	}
}

func TestJoinOfEveryTwoTexts(t *testing.T) {
	for _, a := range texts() {
		for _, b := range texts() {
			if n, want := adler.Join(adler.Sum(a), adler.Sum(b), len(b)), adler.Sum(a, b); n != want {
				t.Errorf("Join of %.9q (%d) and %.9q (%d): %d, want %d", a, len(a), b, len(b), n, want)
			}
		}
	}
}

func TestJoinKeepsItsRuleAtAllArguments(t *testing.T) {
	for _, a := range sums {
		for _, b := range sums {
			for _, n := range lengths {
				if got, want := adler.Join(a, b, n), joined(a, b, n); got != want {
					t.Fatalf("Join(%d, %d, %d): %d, want %d", a, b, n, got, want)
				}
			}
		}
	}
}

func TestJoinByHand(t *testing.T) {
	for _, x := range []struct{ a, b, n, want int }{
		{1, 1, 0, 1},
		{1, 1, math.MaxInt, 1},
		{0, 0, 0, 65520},
		{0, 0, 1, 65520<<16 | 65520},
		{0, 1, 1, 65520 << 16},
		{0, 1, -1, 0},
		{0, 1, math.MinInt, 0},
		{2, 1, 65520, 65520<<16 | 2},
		{2, 1, 65521, 2},
		{2, 1, 65522, 1<<16 | 2},
		// Halves beyond their base don't come out as they went in, not even beside nothing.
		{65521<<16 | 65522, 1, 0, 1},
		{1, 65535<<16 | 65535, 0, 14<<16 | 14},
		{-1, -1, 0, 28<<16 | 27},
		{-1, -1, 2, 54<<16 | 27},
		{1<<32 | 0x11e60398, 1 << 32, 0, 0x11e60397},
	} {
		if n := adler.Join(x.a, x.b, x.n); n != x.want {
			t.Errorf("Join(%d, %d, %d): %#x, want %#x", x.a, x.b, x.n, n, x.want)
		}
	}
}

func TestJoinOfALongRowOfTheSameText(t *testing.T) {
	// Twice as long each time, so that the length passes the base.
	s := "mirador"
	sum, n := adler.Sum(s), len(s)
	for range 14 {
		sum, n = adler.Join(sum, sum, n), 2*n
	}
	if want := adler.Sum(strings.Repeat(s, 1<<14)); sum != want || n != 7<<14 {
		t.Errorf("%d of %d bytes, want %d", sum, n, want)
	}
}

func TestLongTexts(t *testing.T) {
	s := strings.Repeat("\xff\xfe\x00\x80", 1<<20)
	if n, want := adler.Sum(s), int(adler32.Checksum([]byte(s))); n != want {
		t.Errorf("%d, want %d", n, want)
	}
}

func TestAnswersAreSums(t *testing.T) {
	check := func(what string, n int) {
		t.Helper()
		if n < 0 || n >= 1<<32 {
			t.Errorf("%s: %d is beyond 32 bits", what, n)
		}
	}
	for _, a := range sums {
		check("More", adler.More(a, ""))
		check("More", adler.More(a, "\xff\xff"))
		for _, n := range lengths {
			check("Join", adler.Join(a, a, n))
			check("Join", adler.Join(n, a, a))
		}
	}
}

func TestSumLeavesItsPartsAlone(t *testing.T) {
	parts := []string{"a", "", "bc"}
	first, again := adler.Sum(parts...), adler.Sum(parts...)
	if first != 0x024d0127 || again != first || strings.Join(parts, "|") != "a||bc" {
		t.Errorf("%d, %d, %q", first, again, parts)
	}
}

// The layer stands on api alone: so it can ask no clock, no chance, no file and no network.
func TestSourceStandsOnApiAlone(t *testing.T) {
	src, err := os.ReadFile("adler.go")
	if err != nil {
		t.Fatal(err)
	}
	f, err := parser.ParseFile(token.NewFileSet(), "adler.go", src, parser.ImportsOnly)
	if err != nil {
		t.Fatal(err)
	}
	for _, i := range f.Imports {
		if i.Path.Value != `"mirador/api"` {
			t.Errorf("import of %s", i.Path.Value)
		}
	}
	if tidy, err := format.Source(src); err != nil || string(tidy) != string(src) {
		t.Errorf("not gofmt's layout: %v", err)
	}
}
