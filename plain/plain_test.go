package plain_test

import (
	"encoding/binary"
	"go/ast"
	layout "go/format"
	"go/parser"
	"go/token"
	"go/types"
	"math"
	"os"
	"slices"
	"strings"
	"sync"
	"testing"

	"mirador/api"
	"mirador/format"
	"mirador/plain"
)

// edges are numbers at and around the edges of sides, of places, of colours and of ints.
var edges = []int{
	math.MinInt, math.MinInt + 1, math.MinInt + 4096, -1 << 62, -1 << 32, -1<<32 + 1, -1 << 31, -65536, -4097, -4096, -256, -2, -1,
	0, 1, 2, 3, 127, 128, 255, 256, 257, 4094, 4095, 4096, 4097, 8192, 65534, 65535, 65536, 65537, 0xffffff, 1 << 24, 1<<24 + 0xff8000,
	1<<31 - 1, 1 << 31, 1<<32 - 1, 1 << 32, 1<<32 + 1, 1<<48 + 2, 1 << 62, math.MaxInt - 1, math.MaxInt,
}

// sides are edges near what a side may be, and such that their products would wrap round.
var sides = []int{math.MinInt, -1 << 32, -4096, -1, 0, 1, 2, 4095, 4096, 4097, 65536, 1 << 31, 1 << 32, 1 << 62, math.MaxInt}

// chance answers numbers from 0 to n - 1, the same ones for every seed.
func chance(seed uint64) func(n int) int {
	return func(n int) int {
		seed = seed*6364136223846793005 + 1442695040888963407
		return int(seed>>33) % n
	}
}

// kind is a format of parts: red, green and blue, a Max and a shift of each.
func kind(bits, depth int, big bool, p ...int) api.Format {
	return api.Format{Bits: bits, Depth: depth, Big: big, True: true, RMax: p[0], GMax: p[1], BMax: p[2], RShift: p[3], GShift: p[4], BShift: p[5]}
}

// Formats of three sizes, with bytes in both orders.
var (
	low    = kind(8, 8, false, 7, 7, 3, 0, 3, 6)
	middle = kind(16, 16, false, 31, 63, 31, 11, 5, 0)
	turned = kind(16, 16, true, 31, 63, 31, 11, 5, 0)
	big    = kind(32, 24, true, 255, 255, 255, 16, 8, 0)
)

// formats are valid ones of several kinds.
func formats() []api.Format {
	l := []api.Format{format.Standard(), low, middle, turned, big}
	for _, b := range []bool{false, true} {
		l = append(l,
			kind(32, 24, b, 255, 255, 255, 24, 16, 8), kind(32, 24, b, 255, 255, 255, 0, 8, 16), kind(32, 32, b, 1023, 1023, 1023, 22, 11, 0), kind(32, 24, b, 65535, 1, 1, 16, 0, 15), kind(32, 1, b, 1, 1, 1, 31, 30, 29),
			kind(16, 15, b, 31, 31, 31, 10, 5, 0), kind(16, 12, b, 15, 15, 15, 0, 4, 8), kind(16, 1, b, 8191, 1, 3, 3, 0, 1),
			kind(8, 8, b, 7, 7, 3, 5, 2, 0), kind(8, 6, b, 3, 3, 3, 4, 2, 0), kind(8, 3, b, 1, 1, 1, 7, 6, 5),
		)
	}
	return l
}

// spoilt are formats that can't be.
func spoilt() []api.Format {
	l := []api.Format{{}, {True: true}, {Bits: 32, Depth: 24, True: true}}
	for _, spoil := range []func(f *api.Format){
		func(f *api.Format) { f.Bits = 24 }, func(f *api.Format) { f.Bits = 0 }, func(f *api.Format) { f.Bits = 64 }, func(f *api.Format) { f.Bits = -32 },
		func(f *api.Format) { f.Depth = 0 }, func(f *api.Format) { f.Depth = 33 }, func(f *api.Format) { f.True = false },
		func(f *api.Format) { f.RMax = 0 }, func(f *api.Format) { f.GMax = 254 }, func(f *api.Format) { f.BMax = -1 }, func(f *api.Format) { f.BMax = math.MaxInt },
		func(f *api.Format) { f.RShift = 25 }, func(f *api.Format) { f.GShift = -1 }, func(f *api.Format) { f.BShift = 1 }, func(f *api.Format) { f.RShift = math.MinInt },
	} {
		f := format.Standard()
		spoil(&f)
		l = append(l, f)
		f.Big = true
		l = append(l, f)
	}
	return l
}

// part is a part's share of 0 to from, as that of 0 to to: the nearest number.
func part(n, from, to int) int { return (n*to + from/2) / from }

// valueOf is chapter 13's rule for a colour's value.
func valueOf(f api.Format, colour int) int {
	return part(colour>>16&255, 255, f.RMax)<<f.RShift | part(colour>>8&255, 255, f.GMax)<<f.GShift | part(colour&255, 255, f.BMax)<<f.BShift
}

// colourOf is chapter 13's rule for a value's colour.
func colourOf(f api.Format, v int) int {
	return part(v>>f.RShift&f.RMax, f.RMax, 255)<<16 | part(v>>f.GShift&f.GMax, f.GMax, 255)<<8 | part(v>>f.BShift&f.BMax, f.BMax, 255)
}

// rawOf is the rule for Raw: each value's bytes by the library.
func rawOf(f api.Format, pix []int) string {
	var b []byte
	for _, colour := range pix {
		v := uint64(valueOf(f, colour))
		if f.Big {
			b = append(b, binary.BigEndian.AppendUint64(nil, v)[8-f.Bits/8:]...)
		} else {
			b = append(b, binary.LittleEndian.AppendUint64(nil, v)[:f.Bits/8]...)
		}
	}
	return string(b)
}

// coloursOf is the rule for RawOf of n places, whose bytes are all there.
func coloursOf(f api.Format, n int, s string) []int {
	var l []int
	for range n {
		b := make([]byte, 8)
		if f.Big {
			copy(b[8-f.Bits/8:], s[:f.Bits/8])
			l = append(l, colourOf(f, int(binary.BigEndian.Uint64(b))))
		} else {
			copy(b, s[:f.Bits/8])
			l = append(l, colourOf(f, int(binary.LittleEndian.Uint64(b))))
		}
		s = s[f.Bits/8:]
	}
	return l
}

// some are n colours by chance.
func some(pick func(n int) int, n int) []int {
	var l []int
	for range n {
		l = append(l, pick(1<<24))
	}
	return l
}

// bytes are n of them by chance.
func bytes(pick func(n int) int, n int) string {
	b := make([]byte, n)
	for i := range b {
		b[i] = byte(pick(256))
	}
	return string(b)
}

// checkRawOf holds what RawOf answers against the rule.
func checkRawOf(t testing.TB, f api.Format, w, h int, s string) {
	t.Helper()
	p, n, e := plain.RawOf(f, w, h, s)
	fault := api.OK
	if !format.Valid(f) || w < 0 || w > 4096 || h < 0 || h > 4096 {
		fault = api.ErrArg
	} else if len(s) < w*h*f.Bits/8 {
		fault = api.ErrMore
	}
	if fault != api.OK {
		if len(p) != 0 || n != 0 || e != fault {
			t.Fatalf("RawOf(%+v, %d, %d, of %d bytes): %v, %d, %v; want %v", f, w, h, len(s), p, n, e, fault)
		}
		return
	}
	if want := coloursOf(f, w*h, s); !slices.Equal(p, want) || n != w*h*f.Bits/8 || e != api.OK {
		t.Fatalf("RawOf(%+v, %d, %d, % x): %x, %d, %v; want %x", f, w, h, s, p, n, e, want)
	}
}

// checkCopy holds what Copy answers against the rule, and what CopyOf reads of it.
func checkCopy(t testing.TB, x, y int) {
	t.Helper()
	s, e := plain.Copy(x, y)
	if x < 0 || x > 65535 || y < 0 || y > 65535 {
		if s != "" || e != api.ErrArg {
			t.Fatalf("Copy(%d, %d): % x, %v", x, y, s, e)
		}
		return
	}
	if want := string([]byte{byte(x / 256), byte(x % 256), byte(y / 256), byte(y % 256)}); s != want || e != api.OK {
		t.Fatalf("Copy(%d, %d): % x, %v; want % x", x, y, s, e, want)
	}
	for _, behind := range []string{"", "\x00", "\xff\xff\xff\xff\xff", "in the rain"} {
		if a, b, n, e := plain.CopyOf(s + behind); a != x || b != y || n != 4 || e != api.OK {
			t.Fatalf("CopyOf(% x): %d, %d, %d, %v; want %d, %d", s+behind, a, b, n, e, x, y)
		}
	}
}

func TestExample(t *testing.T) {
	if s := plain.Raw(format.Standard(), []int{0x010203}); s != "\x03\x02\x01\x00" {
		t.Errorf("% x", s)
	}
}

func TestFitsOfAllEdges(t *testing.T) {
	for _, w := range edges {
		for _, h := range edges {
			want := w >= 0 && w <= 4096 && h >= 0 && h <= 4096
			for _, f := range []api.Format{format.Standard(), low, turned} {
				if plain.Fits(f, w, h) != want {
					t.Errorf("Fits(%+v, %d, %d): %v", f, w, h, !want)
				}
			}
			if plain.Fits(api.Format{}, w, h) {
				t.Errorf("Fits(none, %d, %d)", w, h)
			}
		}
	}
}

func TestFitsOfAllFormats(t *testing.T) {
	for _, x := range [][2]int{{0, 0}, {1, 1}, {4096, 4096}, {0, 4096}, {4096, 0}} {
		for _, f := range formats() {
			if !plain.Fits(f, x[0], x[1]) {
				t.Errorf("Fits(%+v, %v): false", f, x)
			}
		}
		for _, f := range spoilt() {
			if plain.Fits(f, x[0], x[1]) {
				t.Errorf("Fits(%+v, %v): true", f, x)
			}
		}
	}
}

func TestValuesAndRawByHand(t *testing.T) {
	for i, x := range []struct {
		f      api.Format
		pix    []int
		values []int
		raw    string
	}{
		{format.Standard(), nil, nil, ""},
		{format.Standard(), []int{}, nil, ""},
		{format.Standard(), []int{0x010203}, []int{0x010203}, "\x03\x02\x01\x00"},
		{format.Standard(), []int{0x010203, 0xff0000, 0, 0xffffff}, []int{0x010203, 0xff0000, 0, 0xffffff}, "\x03\x02\x01\x00\x00\x00\xff\x00\x00\x00\x00\x00\xff\xff\xff\x00"},
		{big, []int{0x010203, 0xff0000}, []int{0x010203, 0xff0000}, "\x00\x01\x02\x03\x00\xff\x00\x00"},
		{middle, []int{0xff8000, 0x0000ff, 0xff8000}, []int{0xfc00, 0x1f, 0xfc00}, "\x00\xfc\x1f\x00\x00\xfc"},
		{turned, []int{0xff8000, 0x0000ff}, []int{0xfc00, 0x1f}, "\xfc\x00\x00\x1f"},
		{low, []int{0xffffff, 0, 0xff0000, 0x00ff00, 0x0000ff}, []int{0xff, 0, 7, 0x38, 0xc0}, "\xff\x00\x07\x38\xc0"},
		// Just the lowest 24 bits of a colour count.
		{format.Standard(), []int{-1, 1<<24 + 5, 1<<40 + 6, math.MinInt, math.MaxInt}, []int{0xffffff, 5, 6, 0, 0xffffff}, "\xff\xff\xff\x00\x05\x00\x00\x00\x06\x00\x00\x00\x00\x00\x00\x00\xff\xff\xff\x00"},
	} {
		if l := plain.Values(x.f, x.pix); !slices.Equal(l, x.values) {
			t.Errorf("%d: Values: %x, want %x", i, l, x.values)
		}
		if s := plain.Raw(x.f, x.pix); s != x.raw {
			t.Errorf("%d: Raw: % x, want % x", i, s, x.raw)
		}
	}
}

func TestValuesAndRawByTheRule(t *testing.T) {
	t.Parallel()
	pick := chance(1)
	for _, f := range formats() {
		for n := range 70 {
			pix := append(some(pick, n), edges...)
			var values []int
			for _, colour := range pix {
				values = append(values, valueOf(f, colour))
			}
			if l := plain.Values(f, pix); !slices.Equal(l, values) {
				t.Fatalf("Values(%+v, %x): %x, want %x", f, pix, l, values)
			}
			if s := plain.Raw(f, pix); s != rawOf(f, pix) {
				t.Fatalf("Raw(%+v, %x): % x, want % x", f, pix, s, rawOf(f, pix))
			}
		}
	}
}

func TestValuesAndRawOfFormatsThatCannotBe(t *testing.T) {
	for _, f := range spoilt() {
		for _, pix := range [][]int{nil, {5}, edges} {
			// Each colour has a value, but of such a format it is 0, and has no bytes.
			if l := plain.Values(f, pix); !slices.Equal(l, make([]int, len(pix))) {
				t.Errorf("Values(%+v, %x): %x", f, pix, l)
			}
			if s := plain.Raw(f, pix); s != "" {
				t.Errorf("Raw(%+v, %x): % x", f, pix, s)
			}
		}
	}
}

func TestRawOfByHand(t *testing.T) {
	for i, x := range []struct {
		f    api.Format
		w, h int
		s    string
		pix  []int
		n    int
		e    api.Errno
	}{
		{format.Standard(), 1, 1, "\x03\x02\x01\x00", []int{0x010203}, 4, api.OK},
		{format.Standard(), 1, 1, "\x03\x02\x01\xff", []int{0x010203}, 4, api.OK},
		{format.Standard(), 2, 1, "\x03\x02\x01\x00\x00\x00\xff\x00\x55", []int{0x010203, 0xff0000}, 8, api.OK},
		{format.Standard(), 1, 2, "\x03\x02\x01\x00\x00\x00\xff", nil, 0, api.ErrMore},
		{big, 1, 2, "\x00\x01\x02\x03\x00\xff\x00\x00", []int{0x010203, 0xff0000}, 8, api.OK},
		{middle, 2, 1, "\x00\xfc\x1f\x00", []int{0xff8200, 0x0000ff}, 4, api.OK},
		{turned, 2, 1, "\xfc\x00\x00\x1fx", []int{0xff8200, 0x0000ff}, 4, api.OK},
		{low, 3, 1, "\xff\x00\x07\x55", []int{0xffffff, 0, 0xff0000}, 3, api.OK},
		{low, 2, 2, "\xff\x00\x07\xc0", []int{0xffffff, 0, 0xff0000, 0x0000ff}, 4, api.OK},
		{low, 2, 2, "\xff\x00\x07", nil, 0, api.ErrMore},
		{low, 1, 1, "", nil, 0, api.ErrMore},
		// Without places nothing is needed.
		{low, 0, 0, "", nil, 0, api.OK}, {low, 0, 4096, "", nil, 0, api.OK}, {low, 4096, 0, "abc", nil, 0, api.OK},
		{format.Standard(), 4096, 4096, "abcd", nil, 0, api.ErrMore},
		// ErrArg comes ahead of bytes that are not there.
		{low, 4097, 1, "", nil, 0, api.ErrArg}, {low, 1, 4097, "", nil, 0, api.ErrArg}, {low, -1, 1, "", nil, 0, api.ErrArg}, {low, 1, -1, "", nil, 0, api.ErrArg},
		{low, -1, 0, "", nil, 0, api.ErrArg}, {low, 0, -1, "", nil, 0, api.ErrArg}, {low, 0, 4097, "", nil, 0, api.ErrArg}, {low, -2, -2, "abcd", nil, 0, api.ErrArg}, {low, 1 << 32, 1 << 32, "", nil, 0, api.ErrArg},
		{api.Format{}, 1, 1, "abcd", nil, 0, api.ErrArg}, {api.Format{}, 0, 0, "", nil, 0, api.ErrArg},
	} {
		if p, n, e := plain.RawOf(x.f, x.w, x.h, x.s); !slices.Equal(p, x.pix) || n != x.n || e != x.e {
			t.Errorf("%d: %x, %d, %v; want %x, %d, %v", i, p, n, e, x.pix, x.n, x.e)
		}
	}
}

func TestRawOfAllSmallSizes(t *testing.T) {
	t.Parallel()
	pick := chance(2)
	for _, f := range formats() {
		for w := range 6 {
			for h := range 6 {
				need := w * h * f.Bits / 8
				for n := range need + 6 {
					checkRawOf(t, f, w, h, bytes(pick, n))
				}
			}
		}
	}
}

func TestRawOfAllSides(t *testing.T) {
	for _, f := range append(spoilt(), format.Standard(), low, turned) {
		for _, w := range sides {
			for _, h := range sides {
				for _, s := range []string{"", "a", "in the rain in the rain"} {
					checkRawOf(t, f, w, h, s)
				}
			}
		}
	}
}

func TestWhatIsWrittenIsReadAgain(t *testing.T) {
	t.Parallel()
	pick := chance(3)
	for _, f := range formats() {
		for range 60 {
			w, h := pick(12), pick(12)
			pix := some(pick, w*h)
			var left []int
			for _, colour := range pix {
				left = append(left, format.Quant(f, colour))
			}
			s := plain.Raw(f, pix)
			for _, behind := range []string{"", "\x00", "in the rain"} {
				if p, n, e := plain.RawOf(f, w, h, s+behind); !slices.Equal(p, left) || n != len(s) || e != api.OK {
					t.Fatalf("%+v, %d to %d: %x, %d, %v; want %x", f, w, h, p, n, e, left)
				}
			}
			// What is left of the colours is left of itself, too.
			if p, _, e := plain.RawOf(f, w, h, plain.Raw(f, left)); !slices.Equal(p, left) || e != api.OK {
				t.Fatalf("%+v, %d to %d: %x, %v; want %x", f, w, h, p, e, left)
			}
		}
	}
}

func TestStandardLeavesAllColours(t *testing.T) {
	t.Parallel()
	for _, f := range []api.Format{format.Standard(), big} {
		for red := 0; red < 256; red += 5 {
			pix := make([]int, 0, 1<<16)
			for i := range 1 << 16 {
				pix = append(pix, red<<16|i)
			}
			if p, n, e := plain.RawOf(f, 256, 256, plain.Raw(f, pix)); !slices.Equal(p, pix) || n != 1<<18 || e != api.OK {
				t.Fatalf("red %d: %d, %v", red, n, e)
			}
		}
	}
}

func TestGreatestRectangle(t *testing.T) {
	t.Parallel()
	s := strings.Repeat("\xff\x00\x07\xc0", 1<<22)
	p, n, e := plain.RawOf(low, 4096, 4096, s)
	if len(p) != 1<<24 || n != 1<<24 || e != api.OK {
		t.Fatalf("%d, %d, %v", len(p), n, e)
	}
	if !slices.Equal(p[:4], []int{0xffffff, 0, 0xff0000, 0x0000ff}) || !slices.Equal(p[4:], p[:1<<24-4]) {
		t.Error("other colours")
	}
	if p, n, e := plain.RawOf(low, 4096, 4096, s[1:]); len(p) != 0 || n != 0 || e != api.ErrMore {
		t.Errorf("%d, %d, %v", len(p), n, e)
	}
	if plain.Raw(low, p) != s {
		t.Error("other bytes")
	}
}

func TestFewBytesNeverCostTheRoomOfManyPlaces(t *testing.T) {
	if room := testing.AllocsPerRun(1000, func() { plain.RawOf(format.Standard(), 4096, 4096, "in the rain") }); room != 0 {
		t.Errorf("%v", room)
	}
}

func TestCopyByHand(t *testing.T) {
	for i, x := range []struct {
		x, y int
		s    string
		e    api.Errno
	}{
		{0, 0, "\x00\x00\x00\x00", api.OK}, {1, 2, "\x00\x01\x00\x02", api.OK}, {258, 772, "\x01\x02\x03\x04", api.OK}, {1, 65535, "\x00\x01\xff\xff", api.OK}, {65535, 65534, "\xff\xff\xff\xfe", api.OK}, {4096, 4095, "\x10\x00\x0f\xff", api.OK},
		{1, 65536, "", api.ErrArg}, {65536, 1, "", api.ErrArg}, {-1, 1, "", api.ErrArg}, {1, -1, "", api.ErrArg}, {1 << 32, 0, "", api.ErrArg}, {0, math.MinInt, "", api.ErrArg}, {-1, 65536, "", api.ErrArg},
	} {
		if s, e := plain.Copy(x.x, x.y); s != x.s || e != x.e {
			t.Errorf("%d: % x, %v; want % x, %v", i, s, e, x.s, x.e)
		}
	}
}

func TestCopyOfAllEdges(t *testing.T) {
	for _, x := range edges {
		for _, y := range edges {
			checkCopy(t, x, y)
		}
	}
	for n := range 1 << 16 {
		checkCopy(t, n, n*40503&65535)
		checkCopy(t, n*40503&65535, n)
	}
}

func TestCopyOfByHand(t *testing.T) {
	for i, c := range []struct {
		s       string
		x, y, n int
		e       api.Errno
	}{
		{"\x00\x00\x00\x00", 0, 0, 4, api.OK}, {"\x00\x01\xff\xffx", 1, 65535, 4, api.OK}, {"\x01\x02\x03\x04\x05\x06\x07\x08", 258, 772, 4, api.OK}, {"\xff\xff\xff\xff", 65535, 65535, 4, api.OK},
		{"", 0, 0, 0, api.ErrMore}, {"\x01", 0, 0, 0, api.ErrMore}, {"\x01\x02", 0, 0, 0, api.ErrMore}, {"\x01\x02\x03", 0, 0, 0, api.ErrMore},
	} {
		if x, y, n, e := plain.CopyOf(c.s); x != c.x || y != c.y || n != c.n || e != c.e {
			t.Errorf("%d: %d, %d, %d, %v; want %d, %d, %d, %v", i, x, y, n, e, c.x, c.y, c.n, c.e)
		}
	}
}

func TestWhatIsHandedInIsNotChangedAndNotShared(t *testing.T) {
	for _, f := range append(formats(), api.Format{}) {
		pix := slices.Clone(edges)
		one, two := plain.Values(f, pix), plain.Values(f, pix)
		s := plain.Raw(f, pix)
		if !slices.Equal(pix, edges) {
			t.Fatalf("%+v: %x", f, pix)
		}
		clear(pix)
		if !slices.Equal(one, two) {
			t.Fatalf("%+v: %x, %x", f, one, two)
		}
		clear(one)
		if !slices.Equal(two, plain.Values(f, edges)) || s != plain.Raw(f, edges) {
			t.Fatalf("%+v: %x, % x", f, two, s)
		}
	}
	p, _, _ := plain.RawOf(low, 3, 1, "\xff\x00\x07")
	q, _, _ := plain.RawOf(low, 3, 1, "\xff\x00\x07")
	clear(p)
	if !slices.Equal(q, []int{0xffffff, 0, 0xff0000}) {
		t.Errorf("%x", q)
	}
}

func TestManyAtATime(t *testing.T) {
	faults := make([]int, 8)
	var all sync.WaitGroup
	for i := range faults {
		all.Go(func() {
			pick := chance(uint64(i))
			for _, f := range formats() {
				pix := some(pick, 99)
				s := plain.Raw(f, pix)
				p, n, e := plain.RawOf(f, 9, 11, s)
				if n != len(s) || e != api.OK || !slices.Equal(plain.Values(f, p), plain.Values(f, coloursOf(f, 99, s))) {
					faults[i]++
				}
			}
		})
	}
	all.Wait()
	if !slices.Equal(faults, make([]int, 8)) {
		t.Error(faults)
	}
}

func BenchmarkRaw(b *testing.B) {
	f, pix := format.Standard(), some(chance(4), 64*64)
	for b.Loop() {
		plain.Raw(f, pix)
	}
}

func BenchmarkRawOf(b *testing.B) {
	f, s := format.Standard(), bytes(chance(5), 64*64*4)
	for b.Loop() {
		plain.RawOf(f, 64, 64, s)
	}
}

func FuzzAll(f *testing.F) {
	for i, x := range formats() {
		f.Add(format.Bytes(x), i, 3, "in the rain in the rain")
	}
	for i, n := range edges {
		f.Add(format.Bytes(low), n, edges[len(edges)-1-i], "in the rain")
		f.Add("", n, n, "")
	}
	f.Fuzz(func(t *testing.T, head string, w, h int, s string) {
		x, _ := format.Parse(head)
		checkRawOf(t, x, w, h, s)
		if plain.Fits(x, w, h) != (format.Valid(x) && min(w, h) >= 0 && max(w, h) <= 4096) {
			t.Fatalf("Fits(%+v, %d, %d): %v", x, w, h, plain.Fits(x, w, h))
		}
		checkCopy(t, w, h)
		if a, b, n, e := plain.CopyOf(s); len(s) < 4 && (a != 0 || b != 0 || n != 0 || e != api.ErrMore) {
			t.Fatalf("CopyOf(% x): %d, %d, %d, %v", s, a, b, n, e)
		} else if len(s) >= 4 {
			checkCopy(t, a, b)
			if back, _ := plain.Copy(a, b); back != s[:4] || n != 4 || e != api.OK {
				t.Fatalf("CopyOf(% x): %d, %d, %d, %v", s, a, b, n, e)
			}
		}
		pix := []int{w, h}
		for _, r := range s {
			pix = append(pix, int(r))
		}
		if !format.Valid(x) {
			if plain.Raw(x, pix) != "" || !slices.Equal(plain.Values(x, pix), make([]int, len(pix))) {
				t.Fatalf("%+v: % x, %x", x, plain.Raw(x, pix), plain.Values(x, pix))
			}
			return
		}
		if plain.Raw(x, pix) != rawOf(x, pix) {
			t.Fatalf("Raw(%+v, %x): % x", x, pix, plain.Raw(x, pix))
		}
		for i, v := range plain.Values(x, pix) {
			if v != valueOf(x, pix[i]) {
				t.Fatalf("Values(%+v, %x): %x at %d", x, pix, v, i)
			}
		}
	})
}

func TestSourceStandsOnThoseBelowAlone(t *testing.T) {
	src, err := os.ReadFile("plain.go")
	if err != nil {
		t.Fatal(err)
	}
	f, err := parser.ParseFile(token.NewFileSet(), "plain.go", src, 0)
	if err != nil {
		t.Fatal(err)
	}
	for _, i := range f.Imports {
		if !slices.Contains([]string{`"iter"`, `"strings"`, `"mirador/api"`, `"mirador/format"`, `"mirador/octets"`}, i.Path.Value) {
			t.Errorf("import of %s", i.Path.Value)
		}
	}
	closures, ranges := 0, 0
	ast.Inspect(f, func(n ast.Node) bool {
		switch x := n.(type) {
		case *ast.FuncLit:
			closures++
		case *ast.RangeStmt:
			if _, ok := x.X.(*ast.CallExpr); ok && strings.HasPrefix(types.ExprString(x.X), "values") {
				ranges++
			}
		}
		return true
	})
	if closures == 0 || ranges == 0 {
		t.Errorf("%d closures, %d ranges over them", closures, ranges)
	}
	if tidy, err := layout.Source(src); err != nil || string(tidy) != string(src) {
		t.Errorf("not gofmt's layout: %v", err)
	}
}
