package lz_test

import (
	"go/format"
	"go/parser"
	"go/token"
	"math"
	"os"
	"slices"
	"strings"
	"sync"
	"testing"

	"mirador/api"
	"mirador/lz"
)

// chance answers numbers from 0 to n - 1, the same ones for every seed.
func chance(seed uint64) func(n int) int {
	return func(n int) int {
		seed = seed*6364136223846793005 + 1442695040888963407
		return int(seed>>33) % n
	}
}

// noise is a text of n bytes, of so many kinds.
func noise(pick func(int) int, n, kinds int) string {
	b := make([]byte, n)
	for i := range b {
		b[i] = byte(pick(kinds))
	}
	return string(b)
}

// places is a text of n bytes, up to 195840, of which no three come a second time.
func places(n int) string {
	var b []byte
	for i := 0; len(b) < n; i++ {
		b = append(b, byte(i), byte(i>>8), 0xff)
	}
	return string(b[:n])
}

// words calls f with all texts of n letters of these.
func words(n int, letters string, f func(s string)) {
	if n == 0 {
		f("")
		return
	}
	words(n-1, letters, func(s string) {
		for _, c := range strings.Split(letters, "") {
			f(s + c)
		}
	})
}

func byteOf(b int) api.Token        { return api.Token{Byte: b} }
func piece(length, d int) api.Token { return api.Token{Len: length, Dist: d} }

// valid is the chapter's rule for Valid.
func valid(t api.Token) bool {
	isByte := t.Len == 0 && t.Dist == 0 && t.Byte >= 0 && t.Byte <= 255
	isPiece := t.Byte == 0 && t.Len >= 3 && t.Len <= 258 && t.Dist >= 1 && t.Dist <= 32768
	return isByte || isPiece
}

// expand is the chapter's rule for Expand: window and what is made stand in one text.
func expand(window string, l []api.Token) (string, api.Errno) {
	if len(window) > 32768 {
		window = window[len(window)-32768:]
	}
	all := []byte(window)
	for _, t := range l {
		if !valid(t) {
			return "", api.ErrArg
		}
		if t.Dist > len(all) {
			return "", api.ErrDistance
		}
		if t.Len == 0 {
			all = append(all, byte(t.Byte))
		}
		for i := 0; i < t.Len; i++ {
			all = append(all, all[len(all)-t.Dist])
		}
	}
	return string(all[len(window):]), api.OK
}

// checkExpand holds one call against the rule.
func checkExpand(t *testing.T, window string, l []api.Token) {
	t.Helper()
	kept := slices.Clone(l)
	want, fault := expand(window, l)
	if s, e := lz.Expand(window, l); s != want || e != fault {
		t.Fatalf("Expand of %.40v behind %d bytes: %d of them, %v; want %d, %v", l, len(window), len(s), e, len(want), fault)
	}
	if !slices.Equal(l, kept) {
		t.Fatalf("%.40v was changed", kept)
	}
}

// checkPack holds one call against what the chapter says of every one, and answers how many tokens there are.
func checkPack(t *testing.T, window, s string) int {
	t.Helper()
	l := lz.Pack(window, s)
	if len(l) > len(s) {
		t.Fatalf("Pack of %.40q behind %.40q: %d tokens of %d bytes", s, window, len(l), len(s))
	}
	for _, x := range l {
		if !valid(x) || !lz.Valid(x) {
			t.Fatalf("Pack of %.40q behind %.40q: %v", s, window, x)
		}
	}
	if u, e := expand(window, l); u != s || e != api.OK {
		t.Fatalf("Pack of %.40q behind %.40q: makes %.40q, %v", s, window, u, e)
	}
	if u, e := lz.Expand(window, l); u != s || e != api.OK {
		t.Fatalf("Pack of %.40q behind %.40q: is expanded to %.40q, %v", s, window, u, e)
	}
	return len(l)
}

// edges are numbers at which something may change.
var edges = []int{math.MinInt, math.MinInt32, -1 << 32, -32768, -258, -256, -3, -1, 0, 1, 2, 3, 4, 97, 254, 255, 256, 257, 258, 259, 260, 512, 32766, 32767, 32768, 32769, 65535, 65536, 65539, 1 << 31, 1 << 32, 1<<32 + 1, 1<<32 + 3, math.MaxInt32, math.MaxInt}

func TestExamples(t *testing.T) {
	if s, e := lz.Expand("ab", []api.Token{{Len: 5, Dist: 2}}); s != "ababa" || e != api.OK {
		t.Error(s, e)
	}
	if l := lz.Plain("ab"); !slices.Equal(l, []api.Token{{Byte: 'a'}, {Byte: 'b'}}) {
		t.Error(l)
	}
	if lz.Window != 32768 || lz.Least != 3 || lz.Most != 258 {
		t.Error(lz.Window, lz.Least, lz.Most)
	}
}

func TestTailIsTheLastBytes(t *testing.T) {
	s := places(60000)
	for _, n := range []int{0, 1, 2, 3, 100, 32766, 32767, 32768} {
		if u := lz.Tail(s[:n]); u != s[:n] {
			t.Errorf("Tail of %d bytes has %d", n, len(u))
		}
	}
	for _, n := range []int{32769, 32770, 40000, 60000} {
		if u := lz.Tail(s[:n]); u != s[n-32768:n] {
			t.Errorf("Tail of %d bytes has %d", n, len(u))
		}
	}
	if u := lz.Tail("\x00\xff"); u != "\x00\xff" {
		t.Errorf("%q", u)
	}
}

func TestValidByHand(t *testing.T) {
	for _, x := range []api.Token{
		{}, {Byte: 1}, {Byte: 'a'}, {Byte: 255}, {Len: 3, Dist: 1}, {Len: 258, Dist: 1}, {Len: 3, Dist: 32768}, {Len: 258, Dist: 32768}, {Len: 100, Dist: 1000},
	} {
		if !lz.Valid(x) {
			t.Errorf("%v may not be", x)
		}
	}
	for _, x := range []api.Token{
		{Byte: -1}, {Byte: 256}, {Byte: math.MinInt}, {Byte: math.MaxInt}, {Byte: 1 << 32}, {Dist: 1}, {Byte: 7, Dist: 1}, {Dist: -1}, {Dist: 32768}, {Byte: 300, Len: 0, Dist: 5},
		{Len: 1, Dist: 1}, {Len: 2, Dist: 1}, {Len: 259, Dist: 1}, {Len: -1, Dist: 1}, {Len: -3, Dist: 1}, {Len: 1<<32 + 3, Dist: 1}, {Len: math.MinInt, Dist: 1}, {Len: math.MaxInt, Dist: 1},
		{Len: 3}, {Len: 258}, {Len: 3, Dist: 32769}, {Len: 3, Dist: -1}, {Len: 3, Dist: 1<<32 + 1}, {Len: 3, Dist: math.MaxInt}, {Len: 3, Dist: math.MinInt},
		{Byte: 1, Len: 3, Dist: 1}, {Byte: 255, Len: 258, Dist: 32768}, {Byte: -1, Len: 3, Dist: 1}, {Byte: 256, Len: 3, Dist: 1},
	} {
		if lz.Valid(x) {
			t.Errorf("%v may be", x)
		}
	}
}

func TestValidAtAllEdges(t *testing.T) {
	for _, b := range edges {
		for _, n := range edges {
			for _, d := range edges {
				x := api.Token{Byte: b, Len: n, Dist: d}
				if lz.Valid(x) != valid(x) {
					t.Errorf("%v: %v", x, lz.Valid(x))
				}
			}
		}
	}
	for b := -300; b < 600; b++ {
		if x := byteOf(b); lz.Valid(x) != valid(x) {
			t.Errorf("%v: %v", x, lz.Valid(x))
		}
		if x := piece(b, 5); lz.Valid(x) != valid(x) {
			t.Errorf("%v: %v", x, lz.Valid(x))
		}
	}
}

func TestExpandByHand(t *testing.T) {
	for _, x := range []struct {
		window string
		l      []api.Token
		want   string
	}{
		{"", nil, ""}, {"abc", nil, ""}, {"abc", []api.Token{}, ""}, {"", []api.Token{{}}, "\x00"}, {"", []api.Token{{Byte: 255}, {Byte: 'a'}, {}}, "\xffa\x00"}, {"abc", []api.Token{{Byte: 'x'}}, "x"},
		{"", []api.Token{{Byte: 'x'}, piece(3, 1), {Byte: 'y'}}, "xxxxy"}, {"", []api.Token{{Byte: 'a'}, {Byte: 'b'}, piece(5, 2)}, "abababa"}, {"", []api.Token{{Byte: 'a'}, {Byte: 'b'}, {Byte: 'c'}, piece(3, 3)}, "abcabc"},
		{"abc", []api.Token{piece(3, 3)}, "abc"}, {"abc", []api.Token{piece(3, 1)}, "ccc"}, {"abc", []api.Token{piece(3, 2)}, "bcb"}, {"abcdef", []api.Token{piece(3, 6)}, "abc"}, {"abcdef", []api.Token{piece(3, 4)}, "cde"},
		{"abc", []api.Token{piece(7, 3)}, "abcabca"}, {"abc", []api.Token{{Byte: 'x'}, piece(4, 2)}, "xcxcx"}, {"abc", []api.Token{{Byte: 'x'}, {Byte: 'y'}, piece(8, 4)}, "xybcxybcxy"},
		{"abc", []api.Token{{Byte: 'x'}, piece(3, 4)}, "xabc"}, {"a", []api.Token{piece(258, 1)}, strings.Repeat("a", 258)}, {"a", []api.Token{piece(3, 1), piece(3, 4), {Byte: 'b'}, piece(3, 1)}, "aaaaaabbbb"},
	} {
		if s, e := lz.Expand(x.window, x.l); s != x.want || e != api.OK {
			t.Errorf("Expand of %v behind %q: %q, %v; want %q", x.l, x.window, s, e, x.want)
		}
		checkExpand(t, x.window, x.l)
	}
}

func TestExpandTellsTheFirstTokenThatErrs(t *testing.T) {
	far, odd := piece(3, 100), api.Token{Byte: 1, Len: 3, Dist: 1}
	for _, x := range []struct {
		window string
		l      []api.Token
		e      api.Errno
	}{
		{"abc", []api.Token{far}, api.ErrDistance}, {"abc", []api.Token{odd}, api.ErrArg}, {"abc", []api.Token{far, odd}, api.ErrDistance}, {"abc", []api.Token{odd, far}, api.ErrArg},
		{"abc", []api.Token{{Byte: 'x'}, piece(3, 4), far, odd}, api.ErrDistance}, {"abc", []api.Token{{Byte: 'x'}, piece(3, 4), odd, far}, api.ErrArg}, {"abc", []api.Token{{Byte: 'x'}, {Byte: 'y'}, {Byte: 'z'}, far}, api.ErrDistance},
		// What is not valid is that, however far back it goes.
		{"abc", []api.Token{{Byte: 1, Len: 3, Dist: 100}}, api.ErrArg}, {"abc", []api.Token{{Len: 2, Dist: 100}}, api.ErrArg}, {"abc", []api.Token{{Len: 3, Dist: 32769}}, api.ErrArg}, {"", []api.Token{{Dist: 1}}, api.ErrArg},
		{"abc", []api.Token{{Len: 2, Dist: 1}}, api.ErrArg}, {"abc", []api.Token{{Len: 259, Dist: 1}}, api.ErrArg}, {"abc", []api.Token{{Byte: 256}}, api.ErrArg}, {"abc", []api.Token{{Byte: -1}}, api.ErrArg}, {"abc", []api.Token{{Len: 3}}, api.ErrArg},
		{"abc", []api.Token{{Len: -3, Dist: 1}}, api.ErrArg}, {"abc", []api.Token{{Len: math.MaxInt, Dist: 1}}, api.ErrArg}, {"abc", []api.Token{{Len: 3, Dist: math.MinInt}}, api.ErrArg}, {"abc", []api.Token{{Len: 3, Dist: math.MaxInt}}, api.ErrArg},
		{"", []api.Token{piece(3, 1)}, api.ErrDistance}, {"", []api.Token{{Byte: 'x'}, piece(3, 2)}, api.ErrDistance}, {"abc", []api.Token{piece(3, 4)}, api.ErrDistance}, {"abc", []api.Token{piece(258, 32768)}, api.ErrDistance},
	} {
		if s, e := lz.Expand(x.window, x.l); s != "" || e != x.e {
			t.Errorf("Expand of %v behind %q: %q, %v; want %v", x.l, x.window, s, e, x.e)
		}
		checkExpand(t, x.window, x.l)
	}
}

func TestExpandGoesBackAsFarAsThereAreBytesAndNotOneMore(t *testing.T) {
	all := places(70000)
	for _, n := range []int{0, 1, 2, 3, 10, 257, 258, 259, 32766, 32767, 32768, 32769, 40000, 70000} {
		window := all[:n]
		for _, made := range []int{0, 1, 2, 5, 300} {
			l := lz.Plain(strings.Repeat("m", made))
			there := min(n, 32768) + made
			for _, d := range []int{1, 2, made, made + 1, there - 1, there, there + 1, 32767, 32768} {
				if d < 1 || d > 32768 {
					continue
				}
				for _, length := range []int{3, 4, 258} {
					s, e := lz.Expand(window, append(l, piece(length, d)))
					if want := d > there; (e == api.ErrDistance) != want || (e == api.OK) == want || want && s != "" {
						t.Errorf("%d back, of %d and %d: %v", d, n, made, e)
					}
					checkExpand(t, window, append(l, piece(length, d)))
				}
			}
		}
	}
	// Of a window that has more the last 32768 bytes count.
	if s, e := lz.Expand("z"+strings.Repeat("ab", 16384), []api.Token{piece(3, 32768)}); s != "aba" || e != api.OK {
		t.Error(s, e)
	}
	if s, e := lz.Expand(all, []api.Token{piece(258, 32768)}); s != all[70000-32768:70000-32768+258] || e != api.OK {
		t.Error(len(s), e)
	}
	if s, e := lz.Expand(all, []api.Token{{Byte: 'x'}, piece(3, 32768)}); s != "x"+all[70000-32767:70000-32764] || e != api.OK {
		t.Error(len(s), e)
	}
}

func TestExpandOfAllShortLists(t *testing.T) {
	tokens := []api.Token{{Byte: 'x'}, {Byte: 'y'}, piece(3, 1), piece(3, 2), piece(4, 3), piece(5, 5), piece(3, 7), {Len: 2, Dist: 1}, {Byte: 256}}
	l := make([]api.Token, 0, 4)
	var deeper func()
	deeper = func() {
		for _, window := range []string{"", "a", "ab", "abcd"} {
			checkExpand(t, window, l)
		}
		if len(l) == 4 {
			return
		}
		for _, x := range tokens {
			l = append(l, x)
			deeper()
			l = l[:len(l)-1]
		}
	}
	deeper()
}

func TestExpandAgainstTheRule(t *testing.T) {
	pick := chance(3)
	for range 3000 {
		window := noise(pick, pick(3)*pick(1<<pick(17)), 256)
		var l []api.Token
		for range pick(60) {
			switch pick(12) {
			case 0, 1, 2, 3, 4:
				l = append(l, byteOf(pick(256)))
			case 5, 6, 7, 8:
				l = append(l, piece(3+pick(1<<(1+pick(7))), 1+pick(1+len(l))))
			case 9, 10:
				l = append(l, piece(3+pick(256), 1+pick(min(32768, len(window)+len(l)+1))))
			default:
				if pick(4) == 0 {
					l = append(l, api.Token{Byte: pick(3) * pick(300), Len: pick(260), Dist: pick(33000)})
				}
			}
		}
		checkExpand(t, window, l)
	}
}

func TestPlainIsATokenForEachByte(t *testing.T) {
	all := ""
	for b := range 256 {
		all += string([]byte{byte(b)})
	}
	for _, s := range []string{"", "a", "\x00", "\xff", "aaaaaaaa", all, all + all, "é€", places(40000)} {
		l := lz.Plain(s)
		if len(l) != len(s) {
			t.Fatalf("Plain of %.40q: %d tokens", s, len(l))
		}
		for i, x := range l {
			if x != byteOf(int(s[i])) || !lz.Valid(x) {
				t.Fatalf("Plain of %.40q: %v at %d", s, x, i)
			}
		}
		for _, window := range []string{"", "abc"} {
			if u, e := lz.Expand(window, l); u != s || e != api.OK {
				t.Errorf("Plain of %.40q is expanded to %.40q, %v", s, u, e)
			}
		}
	}
}

// windows are some windows for a text: such as have it, near and far, whole and in part, and as have nothing of it.
func windows(s string) []string {
	return []string{
		"", "a", "ab", "abc", "in the rain", s, s + s, s + "?", "?" + s, s[:len(s)/2], s[len(s)/2:], s[len(s)/3:] + s[:len(s)/3],
		strings.Repeat("q", 40000) + s, s + strings.Repeat("q", 40000), strings.Repeat("q", 32767), strings.Repeat("q", 32768), strings.Repeat("q", 32769), strings.Repeat(s+"-", 300),
	}
}

func TestPackIsExpandedAgain(t *testing.T) {
	pick := chance(5)
	texts := []string{
		"", "a", "ab", "abc", "aaa", "aaaa", "abcabcabcabc", strings.Repeat("x", 1000), "the rain in the main in the rain", "\x00\xff\x00\xff\x00\xff", "\x00\x00\x00", "\xff\xff\xff\xff", "é€é€",
		places(1000), strings.Repeat("ab", 700), strings.Repeat("abc", 300) + "x" + strings.Repeat("abc", 300), noise(pick, 3000, 2), noise(pick, 3000, 256), noise(pick, 70000, 3), noise(pick, 70000, 256),
	}
	for _, s := range texts {
		for _, w := range windows(s) {
			checkPack(t, w, s)
		}
	}
}

func TestPackOfAllShortTexts(t *testing.T) {
	for n := range 9 {
		words(n, "ab", func(s string) {
			for _, w := range []string{"", "a", "ab", "aab", "abba", "babab", "aaaaaa"} {
				checkPack(t, w, s)
			}
			checkPack(t, s, s)
		})
	}
	for n := range 7 {
		words(n, "abc", func(s string) {
			checkPack(t, "", s)
			checkPack(t, "abcab", s)
		})
	}
	words(3, "ab\x00", func(w string) {
		words(4, "ab\x00", func(s string) { checkPack(t, w, s) })
	})
}

func TestPackOfManyTexts(t *testing.T) {
	pick := chance(7)
	for range 2000 {
		kinds := 1 + pick(1+pick(256))
		window := noise(pick, pick(2)*pick(1<<pick(10)), kinds)
		s := noise(pick, pick(1<<pick(11)), kinds)
		if len(s) > 0 && pick(2) == 0 {
			at := pick(len(s))
			s += s[at:] + s[:at]
		}
		if pick(2) == 0 {
			window += s[len(s)/2:]
		}
		checkPack(t, window, s)
	}
}

// What is 32768 bytes back may be a piece, what is one more may not: neither of the window, nor of the text.
func TestPackGoesBackAWindowAndNoMore(t *testing.T) {
	s := strings.Repeat("needle", 5)
	for _, between := range []int{32767, 32768, 32769, 32770, 40000} {
		for back := range 12 {
			rest := places(between - back)
			checkPack(t, s+rest, s)
			checkPack(t, "", s+rest+s)
			checkPack(t, s+rest[:100], rest[100:]+s)
			checkPack(t, s+rest+s[:back], s[back:]+s)
		}
	}
	for back := 32700; back < 32800; back++ {
		rest := places(back - 3)
		checkPack(t, "xyz"+rest, "xyz")
		checkPack(t, "", "xyz"+rest+"xyz")
	}
}

func TestPackOfOneByteManyTimes(t *testing.T) {
	check := func(window, c string, n int) {
		t.Helper()
		if got := checkPack(t, window, strings.Repeat(c, n)); got > 4+n/258 {
			t.Errorf("%d times %q behind %d bytes: %d tokens", n, c, len(window), got)
		}
	}
	for _, c := range []string{"x", "\x00", "\xff"} {
		for n := range 1100 {
			check("", c, n)
		}
		for _, n := range []int{32767, 32768, 32769, 32770, 65535, 65536, 100000, 258 * 1000, 258*1000 + 1, 258*1000 + 2, 258*1000 + 3, 258*1000 + 4, 1 << 20} {
			check("", c, n)
		}
	}
	// The chapter asks for it with the empty window alone; a window that ends so is no worse.
	for n := range 600 {
		check("xx", "x", n)
		check("yyyyx", "x", n)
	}
}

// checkTwice holds what is packed of a text that comes twice against how many tokens there may be.
func checkTwice(t *testing.T, s string) {
	t.Helper()
	if got := checkPack(t, "", s+s); got > 2+len(s) {
		t.Errorf("%q twice: %d tokens", s, got)
	}
}

func TestPackOfWhatComesASecondTime(t *testing.T) {
	pick := chance(9)
	for n := 3; n <= 30; n++ {
		checkTwice(t, places(n))
		checkTwice(t, strings.Repeat("x", n))
		checkTwice(t, strings.Repeat("ab", n)[:n])
		checkTwice(t, strings.Repeat("a", n-1)+"b")
		checkTwice(t, "b"+strings.Repeat("a", n-1))
		for kinds := 1; kinds <= 256; kinds++ {
			checkTwice(t, noise(pick, n, kinds))
		}
		for range 2000 {
			checkTwice(t, noise(pick, n, 1+pick(5)))
		}
		// Much alike, so that what comes ahead is not the nearest one that begins so.
		for range 1000 {
			b := []byte(strings.Repeat("a", n))
			for range 1 + pick(3) {
				b[pick(n)] = 'b'
			}
			checkTwice(t, string(b))
		}
	}
	for n := 3; n <= 13; n++ {
		words(n, "ab", func(s string) { checkTwice(t, s) })
	}
	for n := 3; n <= 8; n++ {
		words(n, "abc", func(s string) { checkTwice(t, s) })
	}
}

// Behind a window, too: the chapter's words bind it to no empty one.
func TestPackOfWhatComesASecondTimeBehindAWindow(t *testing.T) {
	pick := chance(15)
	for n := 3; n <= 30; n++ {
		for range 200 {
			kinds := 1 + pick(4)
			s := noise(pick, n, kinds)
			for _, w := range []string{"", "\x00", s, s[n/2:], noise(pick, 500, kinds), strings.Repeat("\x00", 300)} {
				if got := checkPack(t, w, s+s); got > 2+n {
					t.Errorf("%q twice behind %q: %d tokens", s, w, got)
				}
				if got := checkPack(t, w+s, s); got > 2+n {
					t.Errorf("%q behind %q and itself: %d tokens", s, w, got)
				}
			}
		}
	}
}

// Which tokens there are is free, but a text that stands in the window, as a whole, is worth one piece: the nearest one.
func TestPackFindsWhatStandsInTheWindow(t *testing.T) {
	rest := places(40000)
	for _, n := range []int{3, 4, 30, 257, 258} {
		s := "\xff\xff" + strings.Repeat("needle", 50)[:n-2]
		for _, behind := range []int{0, 1, 2, 300, 32000, 32767 - n, 32768 - n} {
			for _, w := range []string{s + rest[:behind], rest + s + rest[:behind], s + rest[:100] + s + rest[:behind]} {
				if l := lz.Pack(w, s); len(l) != 1 || l[0] != piece(n, n+behind) {
					t.Errorf("%d bytes, %d back: %v", n, n+behind, l)
				}
			}
		}
		if l := lz.Pack(s+rest[:32769-n], s); len(l) > n || len(l) == 1 {
			t.Errorf("%d bytes, 32769 back: %v", n, l)
		}
	}
}

// Texts whose beginnings are alike everywhere would take a search of all places a time that nobody waits for.
func TestPackOfLongTextsEnds(t *testing.T) {
	pick := chance(11)
	rare := []byte(strings.Repeat("a", 1<<20))
	for range 1 << 13 {
		rare[pick(len(rare))] = 'b'
	}
	alike := []byte(strings.Repeat("abc?", 1<<18))
	for i := 3; i < len(alike); i += 4 {
		alike[i] = byte(pick(256))
	}
	for _, s := range []string{
		string(alike), strings.Repeat("a", 1<<22), strings.Repeat("ab", 1<<21), strings.Repeat(strings.Repeat("a", 257)+"b", 1<<12), strings.Repeat(noise(pick, 32768, 2), 32), string(rare),
		noise(pick, 1<<20, 2), noise(pick, 1<<20, 256), strings.Repeat("aaab", 1<<18) + strings.Repeat("aaba", 1<<18),
	} {
		checkPack(t, "", s)
		checkPack(t, s, s[:1000])
	}
}

func TestAnswersShareNothing(t *testing.T) {
	for _, pack := range []func() []api.Token{
		func() []api.Token { return lz.Pack("abc", "abcabcabcd") },
		func() []api.Token { return lz.Plain("abcabcabcd") },
	} {
		first, again := pack(), pack()
		if !slices.Equal(first, again) {
			t.Fatalf("%v, and then %v", first, again)
		}
		for i := range first {
			first[i] = api.Token{Byte: -1}
		}
		if u, e := lz.Expand("abc", again); u != "abcabcabcd" || e != api.OK || !slices.Equal(pack(), again) {
			t.Errorf("%q, %v: an answer is shared", u, e)
		}
	}
	l := []api.Token{{Byte: 'a'}, {Byte: 'b'}, piece(5, 2)}
	s, _ := lz.Expand("", l)
	clear(l)
	if s != "abababa" {
		t.Errorf("%q changes with its tokens", s)
	}
}

func TestTheSameTextIsPackedTheSame(t *testing.T) {
	pick := chance(13)
	for range 50 {
		w, s := noise(pick, pick(3000), 3), noise(pick, pick(3000), 3)
		first := lz.Pack(w, s)
		for range 5 {
			if l := lz.Pack(strings.Clone(w), strings.Clone(s)); !slices.Equal(l, first) {
				t.Fatalf("Pack of %q behind %q: %v, and then %v", s, w, first, l)
			}
		}
	}
}

func TestManyAtATime(t *testing.T) {
	s := strings.Repeat("the rain in the main in the rain ", 100)
	want := lz.Pack(s, s)
	wrong := make([]int, 8)
	var all sync.WaitGroup
	for i := range wrong {
		all.Go(func() {
			for range 5 {
				l := lz.Pack(s, s)
				if u, e := lz.Expand(s, l); u != s || e != api.OK || !slices.Equal(l, want) {
					wrong[i]++
				}
			}
		})
	}
	all.Wait()
	if !slices.Equal(wrong, make([]int, 8)) {
		t.Error(wrong)
	}
}

func BenchmarkPack(b *testing.B) {
	pick := chance(1)
	for _, kinds := range []int{1, 2, 16, 256} {
		s := noise(pick, 1<<20, kinds)
		for b.Loop() {
			lz.Pack("", s)
		}
	}
}

func BenchmarkPackOfAShortTextBehindAWholeWindow(b *testing.B) {
	s := noise(chance(1), lz.Window+20, 256)
	for b.Loop() {
		lz.Pack(s[:lz.Window], s[lz.Window:])
	}
}

func FuzzAll(f *testing.F) {
	f.Add("ab", "ababa", "\x00\x05\x02")
	f.Add("", "", "")
	f.Add("in the rain", "in the rain", "\x61\x00\x00\x00\x03\x01")
	f.Fuzz(func(t *testing.T, window, s, numbers string) {
		checkPack(t, window, s)
		checkPack(t, s, window)
		if len(s) >= 3 && len(s) <= 30 {
			checkTwice(t, s)
		}
		var l []api.Token
		for i := 0; i+3 <= len(numbers); i += 3 {
			l = append(l, api.Token{Byte: int(numbers[i]), Len: int(numbers[i+1]), Dist: int(int8(numbers[i+2]))})
		}
		checkExpand(t, window, l)
		for _, x := range l {
			if lz.Valid(x) != valid(x) {
				t.Errorf("%v: %v", x, lz.Valid(x))
			}
		}
	})
}

// The layer stands on api alone, and on what the library has for slices: so it can ask no clock, no chance, no file and no network.
func TestSourceStandsOnApiAlone(t *testing.T) {
	src, err := os.ReadFile("lz.go")
	if err != nil {
		t.Fatal(err)
	}
	f, err := parser.ParseFile(token.NewFileSet(), "lz.go", src, parser.ImportsOnly)
	if err != nil {
		t.Fatal(err)
	}
	for _, i := range f.Imports {
		if !slices.Contains([]string{`"mirador/api"`, `"slices"`}, i.Path.Value) {
			t.Errorf("import of %s", i.Path.Value)
		}
	}
	if tidy, err := format.Source(src); err != nil || string(tidy) != string(src) {
		t.Errorf("not gofmt's layout: %v", err)
	}
}
