package zstream_test

import (
	"bytes"
	"compress/zlib"
	"go/format"
	"go/parser"
	"go/token"
	"hash/adler32"
	"io"
	"math"
	"os"
	"slices"
	"strings"
	"sync"
	"testing"

	"mirador/api"
	"mirador/bitio"
	"mirador/deflate"
	"mirador/inflate"
	"mirador/zstream"
)

// chance answers numbers from 0 to n - 1, the same ones for every seed.
func chance(seed uint64) func(n int) int {
	return func(n int) int {
		seed = seed*6364136223846793005 + 1442695040888963407
		return int(seed>>33) % n
	}
}

// anyBytes are n bytes that have nothing in common, by a seed.
func anyBytes(seed uint64, n int) string {
	pick := chance(seed)
	b := make([]byte, n)
	for i := range b {
		b[i] = byte(pick(256))
	}
	return string(b)
}

// texts are ones of several kinds.
func texts() []string {
	pick := chance(1)
	any := anyBytes(2, 70000)
	few := make([]byte, 50000)
	for i := range few {
		few[i] = "aaab"[pick(4)] + byte(pick(1<<pick(4)))
	}
	return []string{
		"", "a", "ab", "\x00", "\xff", "in the rain in the main", strings.Repeat("x", 100000), strings.Repeat("the rain ", 9000), any, string(few), any[:32768] + any[:40000],
		"\x00\x00\xff\xff", "\x78\x9c", strings.Repeat("\xff", 65536), any[:32767], any[:32768], any[:32769], any[:65535], any[:65536],
	}
}

// sumOf is a text's sum, in four bytes, the greatest one first.
func sumOf(s string) string {
	n := adler32.Checksum([]byte(s))
	return string([]byte{byte(n >> 24), byte(n >> 16), byte(n >> 8), byte(n)})
}

// heads are all headers there may be.
var heads = headsByTheRule()

func headsByTheRule() []string {
	var l []string
	for i := range 1 << 16 {
		if i>>8%16 == 8 && i>>8/16 <= 7 && i/32%2 == 0 && i%31 == 0 {
			l = append(l, string([]byte{byte(i >> 8), byte(i)}))
		}
	}
	return l
}

// header is the rule for Header.
func header(s string) api.Errno {
	if len(s) < 2 {
		return api.ErrMore
	}
	if !slices.Contains(heads, s[:2]) {
		return api.ErrHeader
	}
	return api.OK
}

// open is the rule for Open.
func open(s string, most int) (string, int, api.Errno) {
	if e := header(s); e != api.OK {
		return "", 0, e
	}
	made, n, e := inflate.Whole("", s[2:], most)
	if e != api.OK {
		return "", 0, e
	}
	behind := s[2+n:]
	if len(behind) < 4 {
		return "", 0, api.ErrMore
	}
	if behind[:4] != sumOf(made) {
		return "", 0, api.ErrSum
	}
	return made, 2 + n + 4, api.OK
}

// checkOpen holds Open against its rule.
func checkOpen(t *testing.T, s string, most int) {
	t.Helper()
	want, wantBegun, fault := open(s, most)
	if u, n, e := zstream.Open(s, most); u != want || n != wantBegun || e != fault {
		t.Fatalf("Open of %.60q up to %d: %.60q, %d, %v; want %.60q, %d, %v", s, most, u, n, e, want, wantBegun, fault)
	}
}

// source is a stream that is read by the chapter's rules.
type source struct {
	made  string
	begun bool
	err   api.Errno
}

// segment is the rule for an Unpacker's Segment.
func (r *source) segment(s string, most int) (string, api.Errno) {
	if r.err != api.OK {
		return "", r.err
	}
	if !r.begun {
		if r.err = header(s); r.err != api.OK {
			return "", r.err
		}
		s = s[2:]
	}
	made, e := inflate.Segment(r.made, s, most)
	if e != api.OK {
		r.err = e
		return "", e
	}
	r.begun = true
	r.made += made
	return made, api.OK
}

// library is what the library reads of a zlib text, and whether it found no fault.
func library(s string) (string, bool) {
	r, err := zlib.NewReader(strings.NewReader(s))
	if err != nil {
		return "", false
	}
	b, err := io.ReadAll(r)
	return string(b), err == nil
}

var levels = []int{zlib.HuffmanOnly, zlib.NoCompression, 1, 3, 6, 9}

// byLibrary is the zlib text that the library writes.
func byLibrary(level int, s string) string {
	var b bytes.Buffer
	w, _ := zlib.NewWriterLevel(&b, level)
	io.WriteString(w, s)
	w.Close()
	return b.String()
}

func TestExamples(t *testing.T) {
	if e := zstream.Header("\x78\x9c"); e != api.OK {
		t.Error(e)
	}
	if e := zstream.Header("\x78\x9d"); e != api.ErrHeader {
		t.Error(e)
	}
}

func TestHeader(t *testing.T) {
	t.Parallel()
	for _, s := range []string{"", "\x78", "\x00", "\xff"} {
		if e := zstream.Header(s); e != api.ErrMore {
			t.Errorf("%x: %v", s, e)
		}
	}
	if !slices.Contains(heads, "\x78\x01") || !slices.Contains(heads, "\x78\xda") || !slices.Contains(heads, "\x08\x1d") {
		t.Fatalf("%x", heads)
	}
	came := 0
	for i := range 1 << 16 {
		s := string([]byte{byte(i >> 8), byte(i)})
		want := api.ErrHeader
		if slices.Contains(heads, s) {
			want = api.OK
			came++
		}
		for _, behind := range []string{"", "\x00", "\xff\xff", "abcdefgh"} {
			if e := zstream.Header(s + behind); e != want {
				t.Fatalf("%x: %v, want %v", s+behind, e, want)
			}
		}
		if _, err := zlib.NewReader(strings.NewReader(s)); (err == nil) != (want == api.OK) {
			t.Fatalf("%x: %v; the library finds %v", s, want, err)
		}
	}
	if came != len(heads) {
		t.Error(came, len(heads))
	}
}

func TestHeadersOfEachFault(t *testing.T) {
	for _, s := range []string{
		"\x77\x9f", "\x79\x9c", "\x70\x9d", "\x88\x1c", "\xf8\x1d", "\x78\xbb", "\x78\x20", "\x78\x3f", "\x78\x00", "\x78\x02", "\x9c\x78", "\x00\x00",
	} {
		if e := zstream.Header(s); e != api.ErrHeader {
			t.Errorf("%x: %v", s, e)
		}
	}
}

func TestWhole(t *testing.T) {
	t.Parallel()
	for _, s := range texts() {
		w := zstream.Whole(s)
		if header(w) != api.OK || w[2:len(w)-4] != deflate.Whole("", s) || w[len(w)-4:] != sumOf(s) {
			t.Fatalf("%.60q: %.60x", s, w)
		}
		if u, ok := library(w); u != s || !ok {
			t.Fatalf("%.60q (%d): the library reads %d bytes, %v", s, len(s), len(u), ok)
		}
		for _, behind := range []string{"", "\x00", "tail", w} {
			for _, most := range []int{len(s), len(s) + 1, math.MaxInt} {
				if u, n, e := zstream.Open(w+behind, most); u != s || n != len(w) || e != api.OK {
					t.Fatalf("%.60q (%d) up to %d: %d bytes, %d of %d, %v", s, len(s), most, len(u), n, len(w), e)
				}
			}
		}
		for _, most := range []int{len(s) - 1, -1, math.MinInt} {
			if u, n, e := zstream.Open(w, most); u != "" || n != 0 || e != api.ErrLarge {
				t.Fatalf("%.60q (%d) up to %d: %d bytes, %d, %v", s, len(s), most, len(u), n, e)
			}
		}
	}
}

func TestWholeOfShortTexts(t *testing.T) {
	t.Parallel()
	pick := chance(3)
	for i := range 1500 {
		s := anyBytes(uint64(i), pick(40))
		w := zstream.Whole(s)
		if u, n, e := zstream.Open(w, len(s)); u != s || n != len(w) || e != api.OK {
			t.Fatalf("%x: %x, %d, %v", s, u, n, e)
		}
		if u, ok := library(w); u != s || !ok {
			t.Fatalf("%x: the library reads %x, %v", s, u, ok)
		}
	}
}

func TestOpenOfWhatTheLibraryWrites(t *testing.T) {
	t.Parallel()
	for _, s := range texts() {
		for _, level := range levels {
			w := byLibrary(level, s)
			for _, behind := range []string{"", "\xff", "tail"} {
				if u, n, e := zstream.Open(w+behind, len(s)); u != s || n != len(w) || e != api.OK {
					t.Fatalf("level %d, %.60q (%d): %d bytes, %d of %d, %v", level, s, len(s), len(u), n, len(w), e)
				}
			}
		}
	}
}

func TestOpenBehindEachHeader(t *testing.T) {
	w := zstream.Whole("in the rain")
	for _, h := range heads {
		if u, n, e := zstream.Open(h+w[2:], 11); u != "in the rain" || n != len(w) || e != api.OK {
			t.Errorf("%x: %q, %d, %v", h, u, n, e)
		}
	}
}

func TestOpenByHand(t *testing.T) {
	empty := "\x01\x00\x00\xff\xff"
	one := "\x01\x01\x00\xfe\xffa"
	for i, x := range []struct {
		s    string
		most int
		want string
		n    int
		e    api.Errno
	}{
		{"\x78\x9c" + empty + "\x00\x00\x00\x01", 0, "", 11, api.OK}, {"\x78\x9c\x03\x00\x00\x00\x00\x01", 0, "", 8, api.OK}, {"\x78\x9c" + one + "\x00\x62\x00\x62", 1, "a", 12, api.OK}, {"\x78\x9c\x4b\x4c\x04\x00\x01\x25\x00\xc3\xff", 2, "aa", 10, api.OK},
		{"\x08\x1d" + one + "\x00\x62\x00\x62\x78\x9c", 1, "a", 12, api.OK},
		// The sum is of what it holds, the greatest byte first.
		{"\x78\x9c" + one + "\x62\x00\x62\x00", 1, "", 0, api.ErrSum}, {"\x78\x9c" + one + "\x00\x00\x00\x01", 1, "", 0, api.ErrSum}, {"\x78\x9c" + empty + "\x00\x00\x00\x00", 1, "", 0, api.ErrSum}, {"\x78\x9c" + one + "\x00\x62\x00\x63", 1, "", 0, api.ErrSum}, {"\x78\x9c" + one + "\x80\x62\x00\x62", 1, "", 0, api.ErrSum},
		// A header's error is ahead of all others.
		{"", -1, "", 0, api.ErrMore}, {"\x07", 0, "", 0, api.ErrMore}, {"\x78\x9d\x07", 0, "", 0, api.ErrHeader}, {"\x78\x9d" + one, 0, "", 0, api.ErrHeader},
		{"\x78\x9c", 0, "", 0, api.ErrMore}, {"\x78\x9c\x07", 0, "", 0, api.ErrBlock}, {"\x78\x9c\x01\x00\x00\x00\x00\x00\x00\x00\x01", 0, "", 0, api.ErrBlock},
		{"\x78\x9c\x03\x02\x00\x00\x00\x00\x01", 9, "", 0, api.ErrDistance},
		// Blocks' errors are ahead of the sum's, and that there is none ahead of that it is another one.
		{"\x78\x9c" + one, 0, "", 0, api.ErrLarge}, {"\x78\x9c" + one + "\x00\x00\x00\x00", 0, "", 0, api.ErrLarge}, {"\x78\x9c" + empty, -1, "", 0, api.ErrLarge}, {"\x78\x9c" + empty, 0, "", 0, api.ErrMore}, {"\x78\x9c" + one + "\xff\xff\xff", 1, "", 0, api.ErrMore}, {"\x78\x9c" + one + "\x00\x62\x00", 1, "", 0, api.ErrMore}, {"\x78\x9c" + one, 1, "", 0, api.ErrMore},
		{"\x78\x9c\x00\x00\x00\xff\xff", 0, "", 0, api.ErrMore}, {"\x78\x9c\x00\x00\x00\xff\xff\x00\x00\x00\x01", 0, "", 0, api.ErrMore},
	} {
		if u, n, e := zstream.Open(x.s, x.most); u != x.want || n != x.n || e != x.e {
			t.Errorf("%d: %q, %d, %v; want %q, %d, %v", i, u, n, e, x.want, x.n, x.e)
		}
		checkOpen(t, x.s, x.most)
	}
}

func TestOpenOfWhatIsCutOff(t *testing.T) {
	for _, s := range []string{"", "a", "in the rain in the main", anyBytes(4, 300), strings.Repeat("in the rain", 90)} {
		for _, w := range []string{zstream.Whole(s), byLibrary(6, s)} {
			for cut := range w {
				if u, n, e := zstream.Open(w[:cut], len(s)); u != "" || n != 0 || e != api.ErrMore {
					t.Fatalf("%.60q, %d bytes of %d: %q, %d, %v", s, cut, len(w), u, n, e)
				}
			}
		}
	}
}

func TestOpenOfWhatIsSpoilt(t *testing.T) {
	t.Parallel()
	pick := chance(5)
	for _, s := range []string{"", "a", "in the rain in the main", anyBytes(6, 100), strings.Repeat("in the rain", 30)} {
		w := zstream.Whole(s)
		for at := range w {
			for bit := range 8 {
				b := []byte(w)
				b[at] ^= 1 << bit
				checkOpen(t, string(b), len(s))
				if u, n, e := zstream.Open(string(b), 1000); e == api.OK && at >= 2 && n == len(w) && u != s {
					t.Errorf("%.60q: the sum does not tell that it is %.60q", s, u)
				}
			}
			if at >= len(w)-4 {
				b := []byte(w)
				b[at] += byte(1 + pick(255))
				if u, n, e := zstream.Open(string(b), len(s)); u != "" || n != 0 || e != api.ErrSum {
					t.Errorf("%.60q: %.60q, %d, %v", s, u, n, e)
				}
			}
		}
	}
	for range 30000 {
		s := anyBytes(uint64(pick(1<<20)), pick(20))
		checkOpen(t, s, pick(100)-1)
		checkOpen(t, "\x78\x9c"+s, pick(100)-1)
	}
}

// ended is a stream that an end was put to: behind it, it is a zlib text.
func ended(stream, made string) string { return stream + deflate.Whole(made, "") + sumOf(made) }

// checkStream packs texts, and holds the stream to what the chapter says of it.
func checkStream(t *testing.T, l []string) {
	t.Helper()
	var p zstream.Packer
	var u zstream.Unpacker
	stream, made := "", ""
	for i, s := range l {
		z := p.Segment(s)
		blocks := z
		if i == 0 {
			if e := header(z); e != api.OK {
				t.Fatalf("the first segment has no header: %.60x", z)
			}
			blocks = z[2:]
		}
		if blocks != deflate.Segment(made, s) {
			t.Fatalf("segment %d of %.60q (%d): not deflate's behind %d", i, s, len(s), len(made))
		}
		if x, e := u.Segment(z, len(s)); x != s || e != api.OK || u.Err() != api.OK {
			t.Fatalf("segment %d of %.60q (%d): %.60q (%d), %v, %v", i, s, len(s), x, len(x), e, u.Err())
		}
		stream += z
		made += s
	}
	if len(l) == 0 {
		return
	}
	// All of it is one segment, too, and a zlib text that has no end yet.
	var v zstream.Unpacker
	if x, e := v.Segment(stream, len(made)); x != made || e != api.OK {
		t.Fatalf("the stream: %d bytes of %d, %v", len(x), len(made), e)
	}
	if x, n, e := zstream.Open(stream, len(made)); x != "" || n != 0 || e != api.ErrMore {
		t.Fatalf("the stream without an end: %d bytes, %d, %v", len(x), n, e)
	}
	z := ended(stream, made)
	if x, n, e := zstream.Open(z, len(made)); x != made || n != len(z) || e != api.OK {
		t.Fatalf("the stream with an end: %d bytes of %d, %d of %d, %v", len(x), len(made), n, len(z), e)
	}
	if x, ok := library(z); x != made || !ok {
		t.Fatalf("the library reads %d bytes of %d, %v", len(x), len(made), ok)
	}
}

func TestStreams(t *testing.T) {
	t.Parallel()
	checkStream(t, texts())
	reversed := texts()
	slices.Reverse(reversed)
	checkStream(t, reversed)
	any := anyBytes(7, 33000)
	for _, l := range [][]string{
		nil, {""}, {"", ""}, {"", "", "a", "", "a"}, {"a", "a", "a", "a"}, {"abc", "abc", "", "abcabc"}, {"\x78\x9c", "\x78\x9c"}, {any, any}, {any[:32768], any[:32768]}, {any[:32769], "", any}, {any[:32767], "z", any}, {any[:100], any[:32668], any[:300]}, {any[:101], any[:32668], any[:300]}, {any + any, any},
	} {
		checkStream(t, l)
	}
}

func TestAnyStreams(t *testing.T) {
	t.Parallel()
	pick := chance(8)
	all := texts()
	for range 25 {
		var l []string
		for range 1 + pick(12) {
			s := all[pick(len(all))]
			from := pick(len(s) + 1)
			l = append(l, s[from:min(from+pick(1<<(1+pick(16))), len(s))])
		}
		checkStream(t, l)
	}
}

func TestAWindowGoesOverManySegments(t *testing.T) {
	t.Parallel()
	s := anyBytes(9, 32768)
	var l []string
	for at := 0; at < len(s); at += 512 {
		l = append(l, s[at:at+512])
	}
	l = append(l, s, "", s)
	checkStream(t, l)
	var p zstream.Packer
	for i, x := range l {
		if z := p.Segment(x); i >= 64 && len(z) > 700 {
			t.Errorf("segment %d: %d bytes", i, len(z))
		}
	}
	// A piece that is 32768 bytes back reads the first segment, one byte further back none of them.
	back := func(length, dist int) string {
		var w bitio.Writer
		if e := deflate.Coded(&w, []api.Token{{Len: length, Dist: dist}}, false, false); e != api.OK {
			t.Fatal(e)
		}
		deflate.Stored(&w, "", false)
		return w.String()
	}
	var p2 zstream.Packer
	var u, v zstream.Unpacker
	made := ""
	for _, x := range l[:64] {
		z := p2.Segment(x)
		u.Segment(z, 512)
		if made != "" {
			v.Segment(z, 512)
		} else {
			v.Segment(new(zstream.Packer).Segment(x[1:]), 511)
		}
		made += x
	}
	if x, e := u.Segment(back(3, 32768), 3); x != s[:3] || e != api.OK {
		t.Errorf("%x, %v; want %x", x, e, s[:3])
	}
	if x, e := u.Segment(back(3, 32768), 3); x != s[3:6] || e != api.OK {
		t.Errorf("%x, %v; want %x", x, e, s[3:6])
	}
	if x, e := v.Segment(back(3, 32768), 3); x != "" || e != api.ErrDistance {
		t.Errorf("%x, %v", x, e)
	}
}

func TestStreamsThatTheLibraryWrites(t *testing.T) {
	t.Parallel()
	pick := chance(10)
	all := strings.Join(texts(), "")
	for _, level := range levels {
		var b bytes.Buffer
		w, _ := zlib.NewWriterLevel(&b, level)
		var u zstream.Unpacker
		for at, made := 0, 0; at < len(all); made = b.Len() {
			s := all[at:min(at+pick(1<<pick(17)), len(all))]
			io.WriteString(w, s)
			w.Flush()
			if x, e := u.Segment(b.String()[made:], len(s)); x != s || e != api.OK {
				t.Fatalf("level %d, at %d: %d bytes of %d, %v", level, at, len(x), len(s), e)
			}
			at += len(s)
		}
		made := b.Len()
		w.Close()
		if x, e := u.Segment(b.String()[made:], 9); x != "" || e != api.ErrFinal {
			t.Errorf("level %d, the end: %q, %v", level, x, e)
		}
	}
}

func TestAnUnpackerTakesEachHeader(t *testing.T) {
	segment := deflate.Segment("", "in the rain")
	for _, h := range heads {
		var u zstream.Unpacker
		if x, e := u.Segment(h+segment, 11); x != "in the rain" || e != api.OK {
			t.Errorf("%x: %q, %v", h, x, e)
		}
	}
}

func TestBrokenStreams(t *testing.T) {
	good := deflate.Segment("", "ab")
	far := "\x02\x02\x00\x00\x00\x00\xff\xff" // a byte that comes ahead three times
	last := deflate.Whole("", "ab")
	var coded bitio.Writer
	deflate.Coded(&coded, nil, false, false)
	for i, x := range []struct {
		first string
		later []string
		most  int
		e     api.Errno
	}{
		{"", nil, 9, api.ErrMore}, {"\x78", nil, 9, api.ErrMore}, {"\x77", nil, 9, api.ErrMore}, {"\x78\x9d" + good, nil, 9, api.ErrHeader}, {"\x78\x9d" + good, nil, 1, api.ErrHeader}, {"\x78\xbb" + good, nil, 9, api.ErrHeader}, {"\x88\x1c" + good, nil, 9, api.ErrHeader}, {good, nil, 9, api.ErrHeader},
		{"\x78\x9c", nil, 9, api.ErrFinal}, {"\x78\x9c" + good[:len(good)-1], nil, 9, api.ErrMore}, {"\x78\x9c" + good[:3], nil, 9, api.ErrMore}, {"\x78\x9c\x06", nil, 9, api.ErrBlock}, {"\x78\x9c" + far, nil, 9, api.ErrDistance}, {"\x78\x9c" + good, nil, 1, api.ErrLarge}, {"\x78\x9c" + good, nil, -1, api.ErrLarge}, {"\x78\x9c" + last, nil, 9, api.ErrFinal}, {"\x78\x9c\x01\x00\x00\xff\xff", nil, 9, api.ErrFinal}, {"\x78\x9c" + coded.String(), nil, 9, api.ErrMore}, {"\x78\x9c\x00\x01\x00\xfe\xffa", nil, 9, api.ErrFinal}, {zstream.Whole("ab"), nil, 9, api.ErrFinal},
		// A header stands ahead of the first one alone.
		{"\x78\x9c" + good, []string{"\x78\x9c" + good}, 9, api.ErrBlock}, {"\x78\x9c" + good, []string{"\x78\x9c\x00\x00\xff\xff"}, 9, api.ErrBlock},
		{"\x78\x9c" + good, []string{""}, 9, api.ErrFinal}, {"\x78\x9c" + good, []string{good, good[:1]}, 9, api.ErrMore}, {"\x78\x9c" + good, []string{good, "\x06"}, 9, api.ErrBlock}, {"\x78\x9c" + good, []string{good, last}, 9, api.ErrFinal}, {"\x78\x9c" + good, []string{deflate.Segment("ab", "abc")}, 2, api.ErrLarge}, {"\x78\x9c" + good, []string{far, good + "\x00"}, 9, api.ErrMore},
		{"\x78\x9c" + deflate.Segment("", ""), []string{deflate.Segment("", ""), far}, 9, api.ErrDistance},
	} {
		var u zstream.Unpacker
		l := append([]string{x.first}, x.later...)
		for _, s := range l[:len(l)-1] {
			if _, e := u.Segment(s, x.most); e != api.OK || u.Err() != api.OK {
				t.Fatalf("%d: %v, %v", i, e, u.Err())
			}
		}
		// What comes behind the error is good, or wrong in another way: the stream stays as it is.
		for k, s := range []string{l[len(l)-1], l[len(l)-1], "\x78\x9c" + good, good, "", "\x78", "\x00\x00", far, deflate.Segment("", ""), last, "\x06"} {
			if made, e := u.Segment(s, []int{x.most, 99, -1}[k%3*min(k, 1)]); made != "" || e != x.e || u.Err() != x.e {
				t.Errorf("%d, %d: %q, %v, %v; want %v", i, k, made, e, u.Err(), x.e)
			}
		}
	}
}

func TestStreamsThatAreSpoilt(t *testing.T) {
	t.Parallel()
	pick := chance(11)
	all := texts()
	came := map[api.Errno]int{}
	for range 700 {
		var p zstream.Packer
		var u zstream.Unpacker
		var rule source
		for range 6 {
			s := all[pick(len(all))]
			s = s[:min(pick(300), len(s))]
			z, most := p.Segment(s), len(s)
			switch pick(8) {
			case 0:
				b := []byte(z)
				b[pick(len(b))] ^= 1 << pick(8)
				z = string(b)
			case 1:
				z = z[:pick(len(z)+1)]
			case 2:
				z += anyBytes(uint64(pick(1000)), pick(4))
			case 3:
				most += pick(3) - 2
			}
			want, fault := rule.segment(z, most)
			if x, e := u.Segment(z, most); x != want || e != fault || u.Err() != rule.err {
				t.Fatalf("%.60q up to %d: %.60q, %v, %v; want %.60q, %v", z, most, x, e, u.Err(), want, fault)
			}
			came[fault]++
		}
	}
	for _, e := range []api.Errno{api.OK, api.ErrMore, api.ErrLarge, api.ErrDistance, api.ErrBlock, api.ErrFinal, api.ErrHeader} {
		if came[e] == 0 {
			t.Errorf("%v never came", e)
		}
	}
}

func TestErrAheadOfTheFirst(t *testing.T) {
	var u zstream.Unpacker
	if e := u.Err(); e != api.OK {
		t.Error(e)
	}
}

func TestStreamsKnowNothingOfOneAnother(t *testing.T) {
	var a, b zstream.Packer
	first := a.Segment("in the rain")
	if s := b.Segment("in the rain"); s != first {
		t.Errorf("%x, %x", s, first)
	}
	fork := a
	second := a.Segment("in the rain")
	a.Segment("in the main")
	if s := fork.Segment("in the rain"); s != second {
		t.Errorf("%x, %x", s, second)
	}
	var u, v zstream.Unpacker
	u.Segment(first, 99)
	copied := u
	if _, e := u.Segment("", 99); e != api.ErrFinal {
		t.Error(e)
	}
	if x, e := copied.Segment(second, 99); x != "in the rain" || e != api.OK || copied.Err() != api.OK {
		t.Errorf("%q, %v", x, e)
	}
	if x, e := v.Segment(first, 99); x != "in the rain" || e != api.OK {
		t.Errorf("%q, %v", x, e)
	}
}

func TestWithoutASide(t *testing.T) {
	var p *zstream.Packer
	var u *zstream.Unpacker
	want := new(zstream.Packer).Segment("in the rain")
	for range 2 {
		if s := p.Segment("in the rain"); s != want {
			t.Errorf("%x, want %x", s, want)
		}
		if x, e := u.Segment(want, 99); x != "in the rain" || e != api.OK || u.Err() != api.OK {
			t.Errorf("%q, %v, %v", x, e, u.Err())
		}
		if x, e := u.Segment("\x78\x9d", 99); x != "" || e != api.ErrHeader || u.Err() != api.OK {
			t.Errorf("%q, %v, %v", x, e, u.Err())
		}
	}
}

func TestManyAtATime(t *testing.T) {
	s := texts()[9]
	whole := zstream.Whole(s)
	wrong := make([]int, 8)
	var all sync.WaitGroup
	for i := range wrong {
		all.Go(func() {
			var p zstream.Packer
			var u zstream.Unpacker
			for range 3 {
				x, e := u.Segment(p.Segment(s), len(s))
				y, n, f := zstream.Open(whole, len(s))
				if x != s || e != api.OK || y != s || n != len(whole) || f != api.OK || zstream.Whole(s) != whole {
					wrong[i]++
				}
			}
		})
	}
	all.Wait()
	if !slices.Equal(wrong, make([]int, 8)) {
		t.Error(wrong)
	}
}

func BenchmarkShortSegmentsBehindAWholeWindow(b *testing.B) {
	var p zstream.Packer
	var u zstream.Unpacker
	u.Segment(p.Segment(texts()[9]), 1<<20)
	for b.Loop() {
		u.Segment(p.Segment("in the rain in the main"), 99)
	}
}

func FuzzAll(f *testing.F) {
	f.Add("", "\x78\x9c\x4b\x4c\x04\x00\x01\x25\x00\xc3", 2)
	f.Add("in the rain", zstream.Whole("in the main"), 99)
	f.Add("the rain", new(zstream.Packer).Segment("the main")+deflate.Segment("the main", "the main"), 99)
	f.Fuzz(func(t *testing.T, s, z string, most int) {
		checkOpen(t, z, most%100000)
		checkOpen(t, zstream.Whole(s)+z, len(s))
		checkStream(t, []string{s, z, s})
		var u zstream.Unpacker
		var rule source
		for _, x := range []string{z, s, z, deflate.Segment(rule.made, s)} {
			want, fault := rule.segment(x, most%100000)
			if made, e := u.Segment(x, most%100000); made != want || e != fault || u.Err() != rule.err {
				t.Fatalf("%q: %q, %v; want %q, %v", x, made, e, want, fault)
			}
		}
	})
}

// The layer stands on api, octets, adler, lz, inflate and deflate alone: so it can ask no clock, no chance, no file and no network.
func TestSourceStandsOnThoseBelowAlone(t *testing.T) {
	src, err := os.ReadFile("zstream.go")
	if err != nil {
		t.Fatal(err)
	}
	f, err := parser.ParseFile(token.NewFileSet(), "zstream.go", src, parser.ImportsOnly)
	if err != nil {
		t.Fatal(err)
	}
	for _, i := range f.Imports {
		if !slices.Contains([]string{`"strings"`, `"mirador/adler"`, `"mirador/api"`, `"mirador/deflate"`, `"mirador/inflate"`, `"mirador/lz"`, `"mirador/octets"`}, i.Path.Value) {
			t.Errorf("import of %s", i.Path.Value)
		}
	}
	if tidy, err := format.Source(src); err != nil || string(tidy) != string(src) {
		t.Errorf("not gofmt's layout: %v", err)
	}
}
