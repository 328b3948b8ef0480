package format_test

import (
	"encoding/binary"
	layout "go/format"
	"go/parser"
	"go/token"
	"math"
	"os"
	"slices"
	"strings"
	"sync"
	"testing"

	"mirador/api"
	"mirador/format"
)

// edges are numbers at and around the edges of bytes, of colours, of values and of ints.
var edges = []int{
	math.MinInt, math.MinInt + 1, -1<<33 + 5, -1<<32 - 1, -1 << 32, -1 << 31, -1<<24 - 1, -1 << 24, -1<<16 - 1, -256, -255, -128, -2, -1,
	0, 1, 2, 3, 127, 128, 254, 255, 256, 257, 0x7fff, 0x8000, 0xfc00, 0xffff, 1 << 16, 0x123456, 0xff8000, 1<<24 - 1, 1 << 24, 1<<24 + 1, 0x89abcdef,
	1<<31 - 1, 1 << 31, 1<<32 - 1, 1 << 32, 1<<32 + 1, 1<<40 + 0x123456, 1 << 62, math.MaxInt - 1, math.MaxInt,
}

// chance answers numbers from 0 to n - 1, the same ones for every seed.
func chance(seed uint64) func(n int) int {
	return func(n int) int {
		seed = seed*6364136223846793005 + 1442695040888963407
		return int(seed>>33) % n
	}
}

// made is a format of parts: red, green and blue, a Max and a shift of each.
func made(bits, depth int, big bool, p ...int) api.Format {
	return api.Format{Bits: bits, Depth: depth, Big: big, True: true, RMax: p[0], GMax: p[1], BMax: p[2], RShift: p[3], GShift: p[4], BShift: p[5]}
}

// formats are valid ones of several kinds.
func formats() []api.Format {
	var l []api.Format
	for _, big := range []bool{false, true} {
		l = append(l,
			made(32, 24, big, 255, 255, 255, 16, 8, 0), made(32, 24, big, 255, 255, 255, 0, 8, 16), made(32, 24, big, 255, 255, 255, 24, 16, 8), made(32, 24, big, 255, 255, 255, 8, 24, 16),
			made(32, 24, big, 255, 255, 255, 24, 8, 0), made(32, 25, big, 255, 255, 255, 16, 8, 0), made(32, 32, big, 255, 255, 255, 24, 16, 8), made(32, 1, big, 255, 255, 255, 16, 8, 0),
			made(32, 30, big, 1023, 1023, 1023, 20, 10, 0), made(32, 24, big, 1023, 1023, 1023, 22, 12, 2), made(32, 24, big, 65535, 1, 1, 16, 0, 15), made(32, 24, big, 1, 1, 65535, 31, 0, 8), made(32, 24, big, 1, 65535, 127, 23, 0, 16), made(32, 24, big, 1, 1, 1, 31, 30, 29), made(32, 24, big, 1, 1, 1, 0, 1, 2), made(32, 24, big, 1, 1, 1, 8, 23, 12), made(32, 24, big, 1, 1, 1, 0, 31, 12),
			made(16, 16, big, 31, 63, 31, 11, 5, 0), made(16, 15, big, 31, 31, 31, 10, 5, 0), made(16, 16, big, 31, 63, 31, 0, 5, 11), made(16, 12, big, 15, 15, 15, 8, 4, 0), made(16, 1, big, 8191, 1, 3, 3, 0, 1), made(16, 16, big, 1, 1, 1, 15, 0, 7), made(16, 16, big, 255, 127, 1, 8, 1, 0), made(16, 16, big, 1, 1<<14-1, 1, 0, 1, 15), made(16, 9, big, 511, 3, 31, 7, 0, 2),
			made(8, 8, big, 7, 7, 3, 0, 3, 6), made(8, 8, big, 7, 7, 3, 5, 2, 0), made(8, 6, big, 3, 3, 3, 4, 2, 0), made(8, 1, big, 1, 1, 1, 0, 1, 2), made(8, 8, big, 63, 1, 1, 1, 0, 7), made(8, 3, big, 1, 1, 1, 7, 6, 5), made(8, 8, big, 1, 63, 1, 7, 0, 6),
		)
	}
	return l
}

// spoilt are formats that can't be.
func spoilt() []api.Format {
	l := []api.Format{{}, {True: true}, {Bits: 32, Depth: 24, True: true}}
	spoil := func(f api.Format, change func(f *api.Format)) {
		change(&f)
		l = append(l, f)
	}
	std := format.Standard()
	spoil(std, func(f *api.Format) { f.True = false })
	for _, n := range append(edges, 4, 7, 9, 15, 17, 24, 31, 33, 40, 48, 64) {
		if n != 8 && n != 16 && n != 32 {
			spoil(std, func(f *api.Format) { f.Bits = n })
		}
		if n < 1 || n > 32 {
			spoil(std, func(f *api.Format) { f.Depth = n })
		}
		thin := made(32, 24, false, 1, 1, 1, 29, 30, 31)
		for _, p := range []int{n - 1, n, n + 1} {
			if _, ok := widths[p]; !ok {
				spoil(thin, func(f *api.Format) { f.RMax, f.RShift = p, 0 })
				spoil(thin, func(f *api.Format) { f.GMax, f.GShift = p, 0 })
				spoil(thin, func(f *api.Format) { f.BMax, f.BShift = p, 0 })
			}
		}
		if n < 0 || n > 32 {
			spoil(std, func(f *api.Format) { f.RShift = n })
			spoil(std, func(f *api.Format) { f.GShift = n })
			spoil(std, func(f *api.Format) { f.BShift = n })
		}
	}
	spoil(made(16, 16, false, 31, 63, 31, 11, 5, 0), func(f *api.Format) { f.Depth = 17 })
	spoil(made(16, 16, false, 31, 63, 31, 11, 5, 0), func(f *api.Format) { f.Bits = 8 })
	spoil(made(16, 16, false, 31, 63, 31, 11, 5, 0), func(f *api.Format) { f.RShift = 12 })
	spoil(made(16, 16, false, 31, 63, 31, 11, 5, 0), func(f *api.Format) { f.GShift = 4 })
	spoil(made(16, 16, false, 31, 63, 31, 11, 5, 0), func(f *api.Format) { f.GShift = 6 })
	spoil(made(16, 16, false, 31, 63, 31, 11, 5, 0), func(f *api.Format) { f.BShift = 1 })
	spoil(made(8, 8, false, 7, 7, 3, 5, 2, 0), func(f *api.Format) { f.Depth = 9 })
	spoil(made(8, 8, false, 7, 7, 3, 5, 2, 0), func(f *api.Format) { f.BMax = 7 })
	return l
}

// widths are the numbers that a Max may be, and how many bits each has.
var widths = func() map[int]int {
	m := map[int]int{}
	for n, power := 1, 2; power <= 65536; n, power = n+1, 2*power {
		m[power-1] = n
	}
	return m
}()

// spots are the bits' places of a format's parts, red, green and blue; false, if a part can't be.
func spots(f api.Format) ([3][]int, bool) {
	var l [3][]int
	for i, p := range [3][2]int{{f.RMax, f.RShift}, {f.GMax, f.GShift}, {f.BMax, f.BShift}} {
		n, ok := widths[p[0]]
		if !ok || p[1] < 0 || p[1] > 32 {
			return l, false
		}
		for k := range n {
			l[i] = append(l[i], p[1]+k)
		}
	}
	return l, true
}

// valid is the chapter's rule for Valid, bit by bit.
func valid(f api.Format) bool {
	l, ok := spots(f)
	if !ok || !f.True || !slices.Contains([]int{8, 16, 32}, f.Bits) || f.Depth < 1 || f.Depth > f.Bits {
		return false
	}
	all := slices.Sorted(slices.Values(slices.Concat(l[0], l[1], l[2])))
	return all[len(all)-1] < f.Bits && len(slices.Compact(slices.Clone(all))) == len(all)
}

// bit is the bit of a number at a place.
func bit(n, at int) int { return n >> at & 1 }

// nearest is the number from 0 to most whose part of most is the nearest to n's part of all.
func nearest(n, all, most int) int {
	best := 0
	// No two are alike near, because all and most are odd.
	for k := range most + 1 {
		if far(k*all, n*most) < far(best*all, n*most) {
			best = k
		}
	}
	return best
}

func far(m, n int) int { return max(m, n) - min(m, n) }

// valueOf is the rule for Value.
func valueOf(f api.Format, colour int) int {
	l, _ := spots(f)
	v := 0
	for i, most := range []int{f.RMax, f.GMax, f.BMax} {
		p := 0
		for k := range 8 {
			p |= bit(colour, 16-8*i+k) << k
		}
		n := nearest(p, 255, most)
		for k, at := range l[i] {
			v |= bit(n, k) << at
		}
	}
	return v
}

// colourOf is the rule for Colour.
func colourOf(f api.Format, value int) int {
	l, _ := spots(f)
	colour := 0
	for i, most := range []int{f.RMax, f.GMax, f.BMax} {
		n := 0
		for k, at := range l[i] {
			n |= bit(value, at) << k
		}
		colour |= nearest(n, most, 255) << (16 - 8*i)
	}
	return colour
}

// written is the lowest bits of a number in size bytes.
func written(big bool, size, n int) string {
	if big {
		return string(binary.BigEndian.AppendUint64(nil, uint64(n))[8-size:])
	}
	return string(binary.LittleEndian.AppendUint64(nil, uint64(n))[:size])
}

// lowest are the lowest bits of a number.
func lowest(bits, n int) int { return int(uint64(n) << (64 - bits) >> (64 - bits)) }

// compact is the rule for Compact, bit by bit.
func compact(f api.Format) (int, int) {
	l, _ := spots(f)
	all := slices.Concat(l[0], l[1], l[2])
	if f.Bits == 32 && f.Depth <= 24 {
		if slices.Max(all) <= 23 {
			return 3, 0
		}
		if slices.Min(all) >= 8 {
			return 3, 8
		}
	}
	return f.Bits / 8, 0
}

// checkBytes holds a value's bytes, and what they are read as, against the rules.
func checkBytes(t *testing.T, f api.Format, v int) {
	t.Helper()
	s, want := format.Put(f, v), written(f.Big, f.Bits/8, v)
	if s != want {
		t.Fatalf("Put(%+v, %d): % x, want % x", f, v, s, want)
	}
	size, shift := compact(f)
	c, want := format.CPut(f, v), written(f.Big, size, lowest(f.Bits, v)>>shift)
	if c != want {
		t.Fatalf("CPut(%+v, %d): % x, want % x", f, v, c, want)
	}
	low := lowest(f.Bits, v)
	kept := lowest(8*size, low>>shift) << shift
	for _, tail := range []string{"", "\x00", "\xff\xff\xff\xff\xff", "in the rain"} {
		if n, e := format.Get(f, s+tail); n != low || e != api.OK {
			t.Fatalf("Get(%+v, % x): %d, %v; want %d", f, s+tail, n, e, low)
		}
		if n, e := format.CGet(f, c+tail); n != kept || e != api.OK {
			t.Fatalf("CGet(%+v, % x): %d, %v; want %d", f, c+tail, n, e, kept)
		}
	}
	for n := range len(s) {
		if v, e := format.Get(f, s[:n]); v != 0 || e != api.ErrMore {
			t.Fatalf("Get(%+v, % x): %d, %v", f, s[:n], v, e)
		}
	}
	for n := range len(c) {
		if v, e := format.CGet(f, c[:n]); v != 0 || e != api.ErrMore {
			t.Fatalf("CGet(%+v, % x): %d, %v", f, c[:n], v, e)
		}
	}
}

// checkSpoilt holds what is answered of a format that can't be against the rule.
func checkSpoilt(t *testing.T, f api.Format, n int, s string) {
	t.Helper()
	size, shift := format.Compact(f)
	if format.Valid(f) || format.Value(f, n) != 0 || format.Colour(f, n) != 0 || format.Quant(f, n) != 0 || format.Size(f) != 0 || size != 0 || shift != 0 {
		t.Fatalf("%+v: Valid, or a number that is not 0", f)
	}
	if format.Put(f, n) != "" || format.CPut(f, n) != "" {
		t.Fatalf("%+v: a text that is not empty", f)
	}
	if n, e := format.Get(f, s); n != 0 || e != api.ErrFormat {
		t.Fatalf("Get(%+v, %x): %d, %v", f, s, n, e)
	}
	if n, e := format.CGet(f, s); n != 0 || e != api.ErrFormat {
		t.Fatalf("CGet(%+v, %x): %d, %v", f, s, n, e)
	}
}

func TestStandard(t *testing.T) {
	want := api.Format{Bits: 32, Depth: 24, Big: false, True: true, RMax: 255, GMax: 255, BMax: 255, RShift: 16, GShift: 8, BShift: 0}
	if f := format.Standard(); f != want || !format.Valid(f) {
		t.Errorf("%+v", f)
	}
}

func TestExamples(t *testing.T) {
	f := made(16, 16, false, 31, 63, 31, 11, 5, 0)
	if v := format.Value(f, 0xff8000); v != 0xfc00 {
		t.Errorf("%x", v)
	}
	if c := format.Quant(f, 0xff8000); c != 0xff8200 {
		t.Errorf("%x", c)
	}
}

func TestValidByHand(t *testing.T) {
	for i, f := range formats() {
		if !format.Valid(f) || !valid(f) {
			t.Errorf("%d: %+v is not valid", i, f)
		}
	}
	for i, f := range spoilt() {
		if format.Valid(f) || valid(f) {
			t.Errorf("%d: %+v is valid", i, f)
		}
	}
	for i, x := range []struct {
		f    api.Format
		want bool
	}{
		// The depth is from 1 to Bits, whatever the parts have.
		{made(32, 32, false, 1, 1, 1, 0, 1, 2), true}, {made(32, 1, false, 255, 255, 255, 16, 8, 0), true}, {made(8, 8, false, 1, 1, 1, 0, 1, 2), true}, {made(8, 9, false, 1, 1, 1, 0, 1, 2), false}, {made(16, 17, true, 1, 1, 1, 0, 1, 2), false}, {made(16, 0, false, 1, 1, 1, 0, 1, 2), false},
		// The last bit of a part is within, or one beyond.
		{made(8, 8, false, 1, 1, 1, 0, 1, 7), true}, {made(8, 8, false, 1, 1, 1, 0, 1, 8), false}, {made(16, 8, false, 7, 1, 1, 13, 1, 2), true}, {made(16, 8, false, 7, 1, 1, 14, 1, 2), false}, {made(32, 8, false, 1, 255, 1, 0, 24, 2), true}, {made(32, 8, false, 1, 255, 1, 0, 25, 2), false}, {made(32, 8, false, 1, 255, 1, 0, 24, 24), false},
		// Two parts touch, or have a bit in common.
		{made(32, 24, false, 15, 15, 15, 0, 4, 8), true}, {made(32, 24, false, 15, 15, 15, 0, 3, 8), false}, {made(32, 24, false, 15, 15, 15, 0, 4, 7), false}, {made(32, 24, false, 15, 15, 15, 0, 4, 3), false}, {made(32, 24, false, 15, 15, 15, 4, 4, 0), false}, {made(32, 24, false, 1, 1, 1, 5, 5, 5), false}, {made(32, 24, false, 255, 1, 1, 0, 3, 9), false},
		// The greatest Max, and one beyond it.
		{made(32, 24, false, 65535, 1, 1, 0, 16, 17), true}, {made(32, 24, false, 131071, 1, 1, 0, 17, 18), false}, {made(32, 24, false, 65536, 1, 1, 0, 17, 18), false}, {made(32, 24, false, 65534, 1, 1, 0, 17, 18), false},
		// A shift that would wrap round.
		{made(32, 24, false, 255, 255, 255, 64, 8, 0), false}, {made(32, 24, false, 255, 255, 255, math.MaxInt-6, 8, 0), false}, {made(32, 24, false, 255, 255, 255, math.MaxInt, 8, 0), false}, {made(32, 24, false, 255, 255, 255, math.MinInt, 8, 0), false},
	} {
		if format.Valid(x.f) != x.want || valid(x.f) != x.want {
			t.Errorf("%d: %+v is valid: %v", i, x.f, format.Valid(x.f))
		}
	}
}

func TestValidOfAllSmallOnes(t *testing.T) {
	t.Parallel()
	maxes := []int{0, 1, 2, 3, 5, 7, 15, 127, 255}
	came := 0
	f := api.Format{Bits: 8, Depth: 8, True: true}
	for _, f.RMax = range maxes {
		for _, f.GMax = range maxes {
			for _, f.BMax = range maxes {
				for shifts := range 11 * 11 * 11 {
					f.RShift, f.GShift, f.BShift = shifts%11-1, shifts/11%11-1, shifts/121-1
					if format.Valid(f) != valid(f) {
						t.Fatalf("%+v is valid: %v", f, format.Valid(f))
					}
					if valid(f) {
						came++
					}
				}
			}
		}
	}
	if came < 500 {
		t.Errorf("%d valid ones", came)
	}
}

func TestValidOfChance(t *testing.T) {
	t.Parallel()
	pick := chance(1)
	came := 0
	for range 200000 {
		f := made([]int{8, 16, 32, 32, 24}[pick(5)], pick(35), pick(2) == 0, 1<<pick(18)-1, 1<<pick(10)-1, 1<<pick(10)-1, pick(35)-1, pick(35)-1, pick(35)-1)
		if format.Valid(f) != valid(f) {
			t.Fatalf("%+v is valid: %v", f, format.Valid(f))
		}
		if valid(f) {
			came++
		}
	}
	if came < 1000 {
		t.Errorf("%d valid ones", came)
	}
}

func TestBytesByHand(t *testing.T) {
	for _, x := range []struct {
		f api.Format
		s string
	}{
		{format.Standard(), "\x20\x18\x00\x01\x00\xff\x00\xff\x00\xff\x10\x08\x00\x00\x00\x00"},
		{made(16, 15, true, 31, 63, 7, 11, 5, 1), "\x10\x0f\x01\x01\x00\x1f\x00\x3f\x00\x07\x0b\x05\x01\x00\x00\x00"},
		{made(32, 32, false, 65535, 1, 258, 16, 15, 31), "\x20\x20\x00\x01\xff\xff\x00\x01\x01\x02\x10\x0f\x1f\x00\x00\x00"},
		// Also what can't be has bytes, if it fits.
		{api.Format{}, strings.Repeat("\x00", 16)},
		{api.Format{Bits: 255, Depth: 255, Big: true, RMax: 65535, GMax: 65535, BMax: 65535, RShift: 255, GShift: 255, BShift: 255}, "\xff\xff\x01\x00\xff\xff\xff\xff\xff\xff\xff\xff\xff\x00\x00\x00"},
		{api.Format{Bits: 1, Depth: 2, True: true, RMax: 0x0304, GMax: 0x0506, BMax: 0x0708, RShift: 9, GShift: 10, BShift: 11}, "\x01\x02\x00\x01\x03\x04\x05\x06\x07\x08\x09\x0a\x0b\x00\x00\x00"},
	} {
		if s := format.Bytes(x.f); s != x.s {
			t.Errorf("%+v: % x", x.f, s)
		}
	}
}

// numbers are a format's numbers, and how great each may be.
func numbers(f *api.Format) map[*int]int {
	return map[*int]int{&f.Bits: 255, &f.Depth: 255, &f.RMax: 65535, &f.GMax: 65535, &f.BMax: 65535, &f.RShift: 255, &f.GShift: 255, &f.BShift: 255}
}

func TestBytesOfWhatDoesNotFit(t *testing.T) {
	f := format.Standard()
	for p, most := range numbers(&f) {
		was := *p
		for _, n := range append(edges, 65535, 65536) {
			*p = n
			if s := format.Bytes(f); (len(s) == 16) != (n >= 0 && n <= most) || s != "" && len(s) != 16 {
				t.Errorf("%+v: % x", f, s)
			}
		}
		*p = was
	}
}

func TestParseReadsWhatBytesWrote(t *testing.T) {
	for _, f := range formats() {
		s := format.Bytes(f)
		for _, tail := range []string{"", "\x00", "in the rain"} {
			if g, e := format.Parse(s + tail); g != f || e != api.OK {
				t.Errorf("%+v: %+v, %v", f, g, e)
			}
		}
		// Three bytes count for nothing, but must be there.
		if g, e := format.Parse(s[:13] + "\xff\x01\x80"); g != f || e != api.OK {
			t.Errorf("%+v: %+v, %v", f, g, e)
		}
		for n := range len(s) {
			if g, e := format.Parse(s[:n]); g != (api.Format{}) || e != api.ErrMore {
				t.Errorf("%d bytes: %+v, %v", n, g, e)
			}
		}
	}
	came := 0
	for _, f := range spoilt() {
		if s := format.Bytes(f); s != "" {
			came++
			if g, e := format.Parse(s); g != (api.Format{}) || e != api.ErrFormat {
				t.Errorf("%+v: %+v, %v", f, g, e)
			}
			// ErrMore comes ahead of what can't be.
			if g, e := format.Parse(s[:15]); g != (api.Format{}) || e != api.ErrMore {
				t.Errorf("%+v: %+v, %v", f, g, e)
			}
		}
	}
	if came < 50 {
		t.Errorf("%d formats that can't be", came)
	}
}

func TestParseOfAllFlags(t *testing.T) {
	s := []byte(format.Bytes(made(16, 16, false, 31, 63, 31, 11, 5, 0)))
	for n := range 256 {
		want := made(16, 16, n != 0, 31, 63, 31, 11, 5, 0)
		s[2], s[3] = byte(n), 1
		if f, e := format.Parse(string(s)); f != want || e != api.OK {
			t.Errorf("Big %d: %+v, %v", n, f, e)
		}
		s[2], s[3] = 1, byte(n)
		want.Big = true
		f, e := format.Parse(string(s))
		if n == 0 && (f != (api.Format{}) || e != api.ErrFormat) || n != 0 && (f != want || e != api.OK) {
			t.Errorf("True %d: %+v, %v", n, f, e)
		}
	}
}

// parsed is the rule for Parse.
func parsed(s string) (api.Format, api.Errno) {
	if len(s) < 16 {
		return api.Format{}, api.ErrMore
	}
	at := func(i int) int { return int(s[i]) }
	f := api.Format{Bits: at(0), Depth: at(1), Big: at(2) > 0, True: at(3) > 0, RMax: 256*at(4) + at(5), GMax: 256*at(6) + at(7), BMax: 256*at(8) + at(9), RShift: at(10), GShift: at(11), BShift: at(12)}
	if !valid(f) {
		return api.Format{}, api.ErrFormat
	}
	return f, api.OK
}

func TestParseOfSpoiltBytes(t *testing.T) {
	t.Parallel()
	good := 0
	for _, f := range formats() {
		for i := range 16 {
			b := []byte(format.Bytes(f))
			for n := range 256 {
				b[i] = byte(n)
				want, fault := parsed(string(b))
				if g, e := format.Parse(string(b)); g != want || e != fault {
					t.Fatalf("% x: %+v, %v; want %+v, %v", b, g, e, want, fault)
				}
				if fault == api.OK {
					good++
				}
			}
		}
	}
	if good < 1000 {
		t.Errorf("%d were right", good)
	}
}

func TestValueAndColourByHand(t *testing.T) {
	high, low := made(16, 16, false, 31, 63, 31, 11, 5, 0), made(8, 8, true, 7, 7, 3, 0, 3, 6)
	ten, flat := made(32, 30, false, 1023, 1023, 1023, 20, 10, 0), made(8, 3, false, 1, 1, 1, 2, 1, 0)
	for _, x := range []struct {
		f                    api.Format
		colour, value, again int
	}{
		{high, 0, 0, 0}, {high, 0xffffff, 0xffff, 0xffffff}, {high, 0xff0000, 0xf800, 0xff0000}, {high, 0x00ff00, 0x07e0, 0x00ff00}, {high, 0x0000ff, 0x001f, 0x0000ff}, {high, 0x808080, 0x8410, 0x848284}, {high, 0x040204, 0, 0}, {high, 0x050305, 0x0821, 0x080408},
		{low, 0xffffff, 0xff, 0xffffff}, {low, 0x24496d, 0x51, 0x244955}, {low, 0x121201, 0, 0}, {low, 0x13132b, 0x49, 0x242455}, {low, 0x00002a, 0, 0},
		{ten, 0xff8001, 0x3ff<<20 | 0x202<<10 | 4, 0xff8001}, {ten, 0x123456, 0x48<<20 | 0xd1<<10 | 0x159, 0x123456},
		{flat, 0x7f7f7f, 0, 0}, {flat, 0x808080, 7, 0xffffff}, {flat, 0x80007f, 4, 0xff0000}, {flat, 0x007f80, 1, 0x0000ff}, {flat, 0x7fff00, 2, 0x00ff00},
	} {
		if v := format.Value(x.f, x.colour); v != x.value {
			t.Errorf("%+v: value %x of %06x, want %x", x.f, v, x.colour, x.value)
		}
		if c := format.Colour(x.f, x.value); c != x.again {
			t.Errorf("%+v: colour %06x of %x, want %06x", x.f, c, x.value, x.again)
		}
		if c := format.Quant(x.f, x.colour); c != x.again {
			t.Errorf("%+v: %06x is left of %06x, want %06x", x.f, c, x.colour, x.again)
		}
	}
}

func TestEveryPartOfEveryMax(t *testing.T) {
	t.Parallel()
	for most, width := range widths {
		f := made(32, 32, false, most, 1, 1, 3, 1, 0)
		g := made(32, 32, false, 1, most, 1, 0, 32-width, 1)
		b := made(32, 32, true, 1, 1, most, 31, 30, 7)
		for p := range 256 {
			// As far as it is from what would be exact, at most half of one: 255 is odd, so there is no half.
			v := format.Value(f, p<<16) >> f.RShift
			if 2*far(v*255, p*most) >= 255 || format.Value(g, p<<8) != v<<g.GShift || format.Value(b, p) != v<<b.BShift {
				t.Fatalf("Max %d: %d of %d", most, v, p)
			}
		}
		for v := range most + 1 {
			c := format.Colour(f, v<<f.RShift) >> 16
			if 2*far(c*most, v*255) >= most || format.Colour(g, v<<g.GShift) != c<<8 || format.Colour(b, v<<b.BShift) != c {
				t.Fatalf("Max %d: colour %d of %d", most, c, v)
			}
		}
	}
}

// colours are those of the edges, and others.
func colours(n int) []int {
	l := slices.Clone(edges)
	pick := chance(2)
	for range n {
		l = append(l, pick(1<<24))
	}
	return l
}

func TestValueAndColourByTheRule(t *testing.T) {
	t.Parallel()
	for _, f := range formats() {
		n := 30
		if max(f.RMax, f.GMax, f.BMax) > 1023 {
			n = 0
		}
		for _, c := range colours(n) {
			v := format.Value(f, c)
			if v != valueOf(f, c) {
				t.Fatalf("%+v: value %x of %x, want %x", f, v, c, valueOf(f, c))
			}
			// Just the lowest 24 bits of a colour count.
			if format.Value(f, c&0xffffff) != v || format.Value(f, c|1<<24) != v || format.Value(f, c|math.MinInt) != v {
				t.Fatalf("%+v: bits of %x beyond the lowest 24 count", f, c)
			}
			// Each number is a value, too: bits that are no part's count for nothing.
			again := format.Colour(f, c)
			if again != colourOf(f, c) || format.Colour(f, c|1<<32) != again || format.Colour(f, c|math.MinInt) != again {
				t.Fatalf("%+v: colour %x of %x, want %x", f, again, c, colourOf(f, c))
			}
			if q := format.Quant(f, c); q != format.Colour(f, v) || q < 0 || q > 0xffffff {
				t.Fatalf("%+v: %x is left of %x", f, q, c)
			}
		}
	}
}

func TestQuantTwiceIsAsOnce(t *testing.T) {
	t.Parallel()
	for _, f := range formats() {
		for _, c := range colours(2000) {
			once := format.Quant(f, c)
			if twice := format.Quant(f, once); twice != once {
				t.Fatalf("%+v: %06x, then %06x, of %x", f, once, twice, c)
			}
			if format.Value(f, once) != format.Value(f, c) {
				t.Fatalf("%+v: another value of %06x, that is left of %x", f, once, c)
			}
			if min(f.RMax, f.GMax, f.BMax) >= 255 && once != c&0xffffff {
				t.Fatalf("%+v: %06x is left of %x", f, once, c)
			}
		}
	}
}

func TestStandardLeavesEveryColour(t *testing.T) {
	t.Parallel()
	std := format.Standard()
	for c := 0; c < 1<<24; c += 7 {
		if format.Value(std, c) != c || format.Colour(std, c) != c || format.Quant(std, c) != c {
			t.Fatalf("%06x: %06x", c, format.Quant(std, c))
		}
	}
	for _, c := range colours(0) {
		if format.Quant(std, c) != c&0xffffff {
			t.Errorf("%x: %06x", c, format.Quant(std, c))
		}
	}
}

func TestSize(t *testing.T) {
	for _, f := range formats() {
		if n, want := format.Size(f), map[int]int{8: 1, 16: 2, 32: 4}[f.Bits]; n != want {
			t.Errorf("%+v: %d", f, n)
		}
	}
}

func TestPutByHand(t *testing.T) {
	low, high, std := made(8, 8, false, 7, 7, 3, 0, 3, 6), made(16, 16, false, 31, 63, 31, 11, 5, 0), format.Standard()
	for _, x := range []struct {
		f           api.Format
		value       int
		little, big string
	}{
		{low, 0, "\x00", "\x00"}, {low, 0x12, "\x12", "\x12"}, {low, 0x1234, "\x34", "\x34"}, {low, -1, "\xff", "\xff"}, {low, 256, "\x00", "\x00"},
		{high, 0x12, "\x12\x00", "\x00\x12"}, {high, 0x1234, "\x34\x12", "\x12\x34"}, {high, 0xff1234, "\x34\x12", "\x12\x34"}, {high, -2, "\xfe\xff", "\xff\xfe"}, {high, 65536, "\x00\x00", "\x00\x00"},
		{std, 0x123456, "\x56\x34\x12\x00", "\x00\x12\x34\x56"}, {std, 0x12345678, "\x78\x56\x34\x12", "\x12\x34\x56\x78"}, {std, 0xff89abcdef, "\xef\xcd\xab\x89", "\x89\xab\xcd\xef"}, {std, -2, "\xfe\xff\xff\xff", "\xff\xff\xff\xfe"}, {std, math.MinInt, "\x00\x00\x00\x00", "\x00\x00\x00\x00"}, {std, 1 << 32, "\x00\x00\x00\x00", "\x00\x00\x00\x00"},
	} {
		if s := format.Put(x.f, x.value); s != x.little {
			t.Errorf("%+v: % x of %x, want % x", x.f, s, x.value, x.little)
		}
		if v, e := format.Get(x.f, x.little); v != lowest(x.f.Bits, x.value) || e != api.OK {
			t.Errorf("%+v: %x, %v of % x", x.f, v, e, x.little)
		}
		x.f.Big = true
		if s := format.Put(x.f, x.value); s != x.big {
			t.Errorf("%+v: % x of %x, want % x", x.f, s, x.value, x.big)
		}
		if v, e := format.Get(x.f, x.big); v != lowest(x.f.Bits, x.value) || e != api.OK {
			t.Errorf("%+v: %x, %v of % x", x.f, v, e, x.big)
		}
	}
}

func TestWhatIsPutIsGotAgain(t *testing.T) {
	t.Parallel()
	for _, f := range formats() {
		for _, c := range colours(200) {
			checkBytes(t, f, c)
			checkBytes(t, f, c*0x10101)
			// A colour's value has no bit that CPut leaves out.
			v := format.Value(f, c)
			checkBytes(t, f, v)
			if n, e := format.Get(f, format.Put(f, v)); n != v || e != api.OK {
				t.Fatalf("%+v: %x, %v; put %x", f, n, e, v)
			}
			if n, e := format.CGet(f, format.CPut(f, v)); n != v || e != api.OK {
				t.Fatalf("%+v: %x, %v; put %x", f, n, e, v)
			}
		}
	}
}

func TestCompactByHand(t *testing.T) {
	for i, x := range []struct {
		f           api.Format
		size, shift int
	}{
		{format.Standard(), 3, 0}, {made(32, 24, true, 255, 255, 255, 16, 8, 0), 3, 0}, {made(32, 24, false, 255, 255, 255, 24, 16, 8), 3, 8}, {made(32, 24, true, 255, 255, 255, 8, 16, 24), 3, 8},
		// The depth is at most 24, or beyond it.
		{made(32, 1, false, 255, 255, 255, 16, 8, 0), 3, 0}, {made(32, 25, false, 255, 255, 255, 16, 8, 0), 4, 0}, {made(32, 32, false, 255, 255, 255, 16, 8, 0), 4, 0}, {made(32, 1, false, 255, 255, 255, 24, 16, 8), 3, 8}, {made(32, 25, false, 255, 255, 255, 24, 16, 8), 4, 0},
		// Parts are within both, so that they are within the lowest ones.
		{made(32, 24, false, 31, 31, 31, 8, 13, 18), 3, 0}, {made(32, 16, false, 15, 15, 15, 12, 8, 20), 3, 0},
		// One bit is beyond the lowest 24, or the highest 24, or both.
		{made(32, 24, false, 31, 31, 31, 8, 13, 19), 3, 0}, {made(32, 24, false, 31, 31, 31, 8, 13, 20), 3, 8}, {made(32, 24, false, 31, 31, 31, 7, 13, 19), 3, 0}, {made(32, 24, false, 31, 31, 31, 7, 13, 20), 4, 0}, {made(32, 3, false, 1, 1, 1, 0, 31, 9), 4, 0}, {made(32, 3, false, 1, 1, 1, 8, 31, 9), 3, 8}, {made(32, 3, false, 1, 1, 1, 24, 9, 7), 4, 0}, {made(32, 3, false, 1, 1, 1, 9, 24, 8), 3, 8}, {made(32, 3, false, 1, 1, 1, 23, 9, 7), 3, 0},
		{made(32, 24, false, 65535, 127, 1, 0, 16, 23), 3, 0}, {made(32, 24, false, 65535, 127, 1, 8, 24, 31), 3, 8}, {made(32, 24, false, 65535, 127, 1, 16, 8, 15), 3, 8},
		// Other sizes are left, whatever the depth.
		{made(16, 16, false, 31, 63, 31, 11, 5, 0), 2, 0}, {made(16, 8, true, 1, 1, 1, 8, 9, 10), 2, 0}, {made(8, 8, false, 7, 7, 3, 0, 3, 6), 1, 0}, {made(8, 1, false, 1, 1, 1, 0, 3, 6), 1, 0},
	} {
		if size, shift := format.Compact(x.f); size != x.size || shift != x.shift {
			t.Errorf("%d: %+v: %d, %d; want %d, %d", i, x.f, size, shift, x.size, x.shift)
		}
		if size, shift := compact(x.f); size != x.size || shift != x.shift {
			t.Errorf("%d: %+v: %d, %d by the rule; want %d, %d", i, x.f, size, shift, x.size, x.shift)
		}
	}
}

func TestCompactByTheRule(t *testing.T) {
	t.Parallel()
	came := map[[2]int]int{}
	for _, most := range []int{1, 3, 15, 255, 65535} {
		for shifts := range 33 * 33 * 33 {
			f := made(32, []int{1, 24, 25}[shifts%3], false, most, 1, 7, shifts%33, shifts/33%33, shifts/33/33)
			if !valid(f) {
				continue
			}
			size, shift := format.Compact(f)
			if s, h := compact(f); s != size || h != shift {
				t.Fatalf("%+v: %d, %d; want %d, %d", f, size, shift, s, h)
			}
			came[[2]int{size, shift}]++
		}
	}
	for _, x := range [][2]int{{3, 0}, {3, 8}, {4, 0}} {
		if came[x] < 100 {
			t.Errorf("%v came %d times", x, came[x])
		}
	}
}

func TestCPutByHand(t *testing.T) {
	std, up := format.Standard(), made(32, 24, false, 255, 255, 255, 24, 16, 8)
	wide, high := made(32, 32, false, 255, 255, 255, 24, 16, 8), made(16, 16, false, 31, 63, 31, 11, 5, 0)
	for _, x := range []struct {
		f           api.Format
		value       int
		little, big string
		again       int
	}{
		{std, 0x123456, "\x56\x34\x12", "\x12\x34\x56", 0x123456}, {std, 0x89123456, "\x56\x34\x12", "\x12\x34\x56", 0x123456}, {std, -1, "\xff\xff\xff", "\xff\xff\xff", 0xffffff}, {std, 0xff000000, "\x00\x00\x00", "\x00\x00\x00", 0},
		{up, 0x12345600, "\x56\x34\x12", "\x12\x34\x56", 0x12345600}, {up, 0xff12345678, "\x56\x34\x12", "\x12\x34\x56", 0x12345600}, {up, -1, "\xff\xff\xff", "\xff\xff\xff", 0xffffff00}, {up, 0xff, "\x00\x00\x00", "\x00\x00\x00", 0}, {up, 1 << 32, "\x00\x00\x00", "\x00\x00\x00", 0}, {up, math.MinInt, "\x00\x00\x00", "\x00\x00\x00", 0},
		{wide, 0x12345678, "\x78\x56\x34\x12", "\x12\x34\x56\x78", 0x12345678}, {wide, -2, "\xfe\xff\xff\xff", "\xff\xff\xff\xfe", 0xfffffffe},
		{high, 0x12345, "\x45\x23", "\x23\x45", 0x2345},
	} {
		for _, s := range []string{x.little, x.big} {
			if c := format.CPut(x.f, x.value); c != s {
				t.Errorf("%+v: % x of %x, want % x", x.f, c, x.value, s)
			}
			if v, e := format.CGet(x.f, s+"x"); v != x.again || e != api.OK {
				t.Errorf("%+v: %x, %v of % x, want %x", x.f, v, e, s, x.again)
			}
			if v, e := format.CGet(x.f, s[1:]); v != 0 || e != api.ErrMore {
				t.Errorf("%+v: %x, %v of % x", x.f, v, e, s[1:])
			}
			x.f.Big = true
		}
	}
}

func TestWhatCannotBeIsNothing(t *testing.T) {
	for _, f := range spoilt() {
		for _, n := range edges {
			// ErrFormat comes ahead of bytes that are not there.
			for _, s := range []string{"", "x", "in the rain"} {
				checkSpoilt(t, f, n, s)
				f.Big = !f.Big
			}
		}
	}
}

func TestManyAtATime(t *testing.T) {
	faults := make([]int, 8)
	var all sync.WaitGroup
	for i := range faults {
		all.Go(func() {
			for _, f := range formats() {
				for c := i; c < 1<<24; c += 54321 {
					v := format.Value(f, c)
					n, e := format.CGet(f, format.CPut(f, v))
					if n != v || e != api.OK || format.Colour(f, n) != format.Quant(f, c) {
						faults[i]++
					}
				}
			}
		})
	}
	all.Wait()
	if !slices.Equal(faults, make([]int, 8)) {
		t.Error(faults)
	}
}

func BenchmarkPut(b *testing.B) {
	f := format.Standard()
	for b.Loop() {
		format.Put(f, 0x123456)
	}
}

func BenchmarkGet(b *testing.B) {
	f := format.Standard()
	for b.Loop() {
		format.Get(f, "\x12\x34\x56\x78")
	}
}

func BenchmarkCPut(b *testing.B) {
	f := format.Standard()
	for b.Loop() {
		format.CPut(f, 0x123456)
	}
}

func BenchmarkQuant(b *testing.B) {
	f := made(16, 16, false, 31, 63, 31, 11, 5, 0)
	for b.Loop() {
		format.Quant(f, 0x123456)
	}
}

func FuzzAll(f *testing.F) {
	for _, x := range formats() {
		f.Add(format.Bytes(x), 0x123456, "in the rain", 0, false)
	}
	for i, n := range edges {
		f.Add(format.Bytes(format.Standard()), n, "", i, true)
	}
	f.Fuzz(func(t *testing.T, s string, n int, tail string, which int, add bool) {
		x, e := format.Parse(s)
		if want, fault := parsed(s); x != want || e != fault {
			t.Fatalf("% x: %+v, %v; want %+v, %v", s, x, e, want, fault)
		}
		if e == api.OK {
			checkBytes(t, x, n)
			if back := format.Bytes(x); back[4:13] != s[4:13] || len(back) != 16 {
				t.Fatalf("% x: % x", s, back)
			}
		} else {
			checkSpoilt(t, x, n, tail)
		}
		l := []*int{&x.Bits, &x.Depth, &x.RMax, &x.GMax, &x.BMax, &x.RShift, &x.GShift, &x.BShift}
		if p := l[uint(which)%8]; add {
			*p += n
		} else {
			*p = n
		}
		if format.Valid(x) != valid(x) {
			t.Fatalf("%+v is valid: %v", x, format.Valid(x))
		}
		if !valid(x) {
			checkSpoilt(t, x, n, tail)
			return
		}
		checkBytes(t, x, n)
		if format.Quant(x, format.Quant(x, n)) != format.Quant(x, n) {
			t.Fatalf("%+v: twice is not as once of %x", x, n)
		}
		if v := format.Value(x, n); v != valueOf(x, n) || format.Colour(x, n) != colourOf(x, n) {
			t.Fatalf("%+v: %x and %x of %x", x, v, format.Colour(x, n), n)
		}
	})
}

func TestSourceStandsOnThoseBelowAlone(t *testing.T) {
	src, err := os.ReadFile("format.go")
	if err != nil {
		t.Fatal(err)
	}
	f, err := parser.ParseFile(token.NewFileSet(), "format.go", src, parser.ImportsOnly)
	if err != nil {
		t.Fatal(err)
	}
	for _, i := range f.Imports {
		if !slices.Contains([]string{`"math/bits"`, `"mirador/api"`, `"mirador/octets"`}, i.Path.Value) {
			t.Errorf("import of %s", i.Path.Value)
		}
	}
	if tidy, err := layout.Source(src); err != nil || string(tidy) != string(src) {
		t.Errorf("not gofmt's layout: %v", err)
	}
}
