package rre_test

import (
	"encoding/binary"
	"go/ast"
	layout "go/format"
	"go/parser"
	"go/token"
	"go/types"
	"math"
	"os"
	"runtime"
	"slices"
	"strings"
	"sync"
	"testing"

	"mirador/api"
	"mirador/format"
	"mirador/rre"
)

// edges are numbers at and around the edges of sides, of places, of colours and of ints.
var edges = []int{
	math.MinInt, math.MinInt + 1, -1 << 62, -1 << 32, -1<<32 + 1, -1 << 31, -65536, -4097, -4096, -256, -2, -1,
	0, 1, 2, 3, 127, 128, 255, 256, 257, 4094, 4095, 4096, 4097, 8192, 65534, 65535, 65536, 65537, 0xffffff, 1 << 24, 1<<24 + 0xff8000,
	1<<31 - 1, 1 << 31, 1<<32 - 1, 1 << 32, 1<<32 + 1, 1<<48 + 2, 1 << 62, math.MaxInt - 1, math.MaxInt,
}

// sides are edges near what a side may be, and such that their products would wrap round.
var sides = []int{math.MinInt, -1 << 32, -4096, -2, -1, 0, 1, 2, 3, 4095, 4096, 4097, 65536, 1 << 31, 1 << 32, 1 << 62, math.MaxInt}

// behind are texts that may stand behind a rectangle's bytes.
var behind = []string{"", "\x00", "\xff\xff\xff\xff\xff\xff\xff\xff\xff\xff\xff\xff\xff", "in the rain"}

// chance answers numbers from 0 to n - 1, the same ones for every seed.
func chance(seed uint64) func(n int) int {
	return func(n int) int {
		seed = seed*6364136223846793005 + 1442695040888963407
		return int(seed>>33) % n
	}
}

func rect(x, y, w, h int) api.Rect { return api.Rect{X: x, Y: y, W: w, H: h} }

func piece(value, x, y, w, h int) rre.Piece { return rre.Piece{Value: value, Rect: rect(x, y, w, h)} }

// kind is a format of parts: red, green and blue, a Max and a shift of each.
func kind(bits, depth int, big bool, p ...int) api.Format {
	return api.Format{Bits: bits, Depth: depth, Big: big, True: true, RMax: p[0], GMax: p[1], BMax: p[2], RShift: p[3], GShift: p[4], BShift: p[5]}
}

// Formats of three sizes, with bytes in both orders.
var (
	low    = kind(8, 8, false, 7, 7, 3, 0, 3, 6)
	middle = kind(16, 16, false, 31, 63, 31, 11, 5, 0)
	turned = kind(16, 16, true, 31, 63, 31, 11, 5, 0)
	big    = kind(32, 24, true, 255, 255, 255, 16, 8, 0)
)

// formats are valid ones of several kinds.
func formats() []api.Format {
	return []api.Format{
		format.Standard(), low, middle, turned, big,
		kind(32, 24, false, 255, 255, 255, 24, 16, 8), kind(32, 32, true, 1023, 1023, 1023, 22, 11, 0), kind(32, 24, false, 65535, 1, 1, 16, 0, 15), kind(32, 1, true, 1, 1, 1, 31, 30, 29),
		kind(16, 15, false, 31, 31, 31, 10, 5, 0), kind(16, 1, true, 8191, 1, 3, 3, 0, 1), kind(8, 6, true, 3, 3, 3, 4, 2, 0), kind(8, 3, false, 1, 1, 1, 7, 6, 5),
	}
}

// spoilt are formats that can't be.
func spoilt() []api.Format {
	l := []api.Format{{}, {True: true}, {Bits: 32, Depth: 24, True: true}}
	for _, spoil := range []func(f *api.Format){
		func(f *api.Format) { f.Bits = 24 }, func(f *api.Format) { f.Bits = 64 }, func(f *api.Format) { f.Bits = -32 },
		func(f *api.Format) { f.Depth = 0 }, func(f *api.Format) { f.Depth = 33 }, func(f *api.Format) { f.True = false },
		func(f *api.Format) { f.RMax = 0 }, func(f *api.Format) { f.GMax = 254 }, func(f *api.Format) { f.BMax = math.MaxInt },
		func(f *api.Format) { f.RShift = 25 }, func(f *api.Format) { f.GShift = -1 }, func(f *api.Format) { f.BShift = 1 },
	} {
		f := format.Standard()
		spoil(&f)
		l = append(l, f)
	}
	return l
}

// groundOf is the rule for Ground: of equal numbers that stand side by side the longest run, the first one of equal ones.
func groundOf(vals []int) int {
	l := slices.Sorted(slices.Values(vals))
	ground, most := 0, 0
	for i, n := 0, 0; i < len(l); i += n {
		for n = 0; i+n < len(l) && l[i+n] == l[i]; n++ {
		}
		if n > most {
			ground, most = l[i], n
		}
	}
	return ground
}

type place struct{ x, y int }

// piecesOf is the rule for Pieces, place by place, of a rectangle that may be.
func piecesOf(w, h int, vals []int, ground int) []rre.Piece {
	var l []rre.Piece
	taken := map[place]bool{}
	all := func(value, x, y, n int) bool {
		for i := range n {
			if taken[place{x + i, y}] || vals[y*w+x+i] != value {
				return false
			}
		}
		return true
	}
	for i, value := range vals {
		x, y := i%w, i/w
		if value == ground || taken[place{x, y}] {
			continue
		}
		r := rect(x, y, 1, 1)
		for x+r.W < w && all(value, x, y, r.W+1) {
			r.W++
		}
		for y+r.H < h && all(value, x, y+r.H, r.W) {
			r.H++
		}
		for j := range r.W * r.H {
			taken[place{x + j%r.W, y + j/r.W}] = true
		}
		l = append(l, rre.Piece{Value: value, Rect: r})
	}
	return l
}

// text are a rectangle's bytes by the library: a ground, and pieces on it.
func text(f api.Format, ground int, l []rre.Piece) string {
	b := binary.BigEndian.AppendUint32(nil, uint32(len(l)))
	value := func(n int) {
		if f.Big {
			b = append(b, binary.BigEndian.AppendUint64(nil, uint64(n))[8-f.Bits/8:]...)
		} else {
			b = append(b, binary.LittleEndian.AppendUint64(nil, uint64(n))[:f.Bits/8]...)
		}
	}
	value(ground)
	for _, p := range l {
		value(p.Value)
		for _, n := range []int{p.Rect.X, p.Rect.Y, p.Rect.W, p.Rect.H} {
			b = binary.BigEndian.AppendUint16(b, uint16(n))
		}
	}
	return string(b)
}

// answer is what Decode tells.
type answer struct {
	pix []int
	n   int
	e   api.Errno
}

// reader goes through a text; it is short, as soon as bytes were asked for that there are not.
type reader struct {
	s     string
	at    int
	short bool
}

func (r *reader) number(size int, big bool) int {
	if r.short = r.short || r.at+size > len(r.s); r.short {
		return 0
	}
	n := 0
	for i := range size {
		if big {
			n = n*256 + int(r.s[r.at+i])
		} else {
			n = n*256 + int(r.s[r.at+size-1-i])
		}
	}
	r.at += size
	return n
}

// decoded is the rule for Decode.
func decoded(f api.Format, w, h int, s string) answer {
	if !format.Valid(f) || w < 0 || w > 4096 || h < 0 || h > 4096 {
		return answer{e: api.ErrArg}
	}
	r := &reader{s: s}
	count := r.number(4, true)
	if r.short {
		return answer{e: api.ErrMore}
	}
	if count > w*h {
		return answer{e: api.ErrLarge}
	}
	ground := r.number(f.Bits/8, f.Big)
	pix := map[place]int{}
	for range count {
		value := r.number(f.Bits/8, f.Big)
		x, y, width, height := r.number(2, true), r.number(2, true), r.number(2, true), r.number(2, true)
		if r.short {
			return answer{e: api.ErrMore}
		}
		if x+width > w || y+height > h {
			return answer{e: api.ErrRect}
		}
		for i := range width * height {
			pix[place{x + i%width, y + i/width}] = value + 1
		}
	}
	if r.short {
		return answer{e: api.ErrMore}
	}
	l := make([]int, w*h)
	for i := range l {
		if value := pix[place{i % w, i / w}]; value > 0 {
			l[i] = format.Colour(f, value-1)
		} else {
			l[i] = format.Colour(f, ground)
		}
	}
	return answer{l, r.at, api.OK}
}

// checkDecode holds what Decode answers against the rule.
func checkDecode(t testing.TB, f api.Format, w, h int, s string) api.Errno {
	t.Helper()
	p, n, e := rre.Decode(f, w, h, s)
	want := decoded(f, w, h, s)
	if !slices.Equal(p, want.pix) || n != want.n || e != want.e {
		t.Fatalf("Decode(%+v, %d, %d, % x): %x, %d, %v; want %v", f, w, h, s, p, n, e, want)
	}
	return e
}

// checkPieces holds what Pieces answers against the rule, and against what is said of it beside.
func checkPieces(t testing.TB, w, h int, vals []int, ground int) {
	t.Helper()
	kept := slices.Clone(vals)
	l := rre.Pieces(w, h, vals, ground)
	if !slices.Equal(kept, vals) {
		t.Fatalf("Pieces(%d, %d, %v, %d) changed them to %v", w, h, kept, ground, vals)
	}
	if want := piecesOf(w, h, vals, ground); !slices.Equal(l, want) {
		t.Fatalf("Pieces(%d, %d, %v, %d): %v; want %v", w, h, vals, ground, l, want)
	}
	if len(l) > w*h {
		t.Fatalf("Pieces(%d, %d, %v, %d): %d", w, h, vals, ground, len(l))
	}
	// Drawn on the ground they make all of it, though no two have a place in common.
	drawn, places := slices.Repeat([]int{ground}, w*h), 0
	for _, p := range l {
		for i := range p.Rect.W * p.Rect.H {
			drawn[(p.Rect.Y+i/p.Rect.W)*w+p.Rect.X+i%p.Rect.W] = p.Value
			places++
		}
	}
	for _, v := range vals {
		if v != ground {
			places--
		}
	}
	if !slices.Equal(drawn, vals) || places != 0 {
		t.Fatalf("Pieces(%d, %d, %v, %d): %v make %v", w, h, vals, ground, l, drawn)
	}
}

// checkEncode holds what Encode answers of a rectangle that may be against the rule, and what Decode reads of it.
func checkEncode(t testing.TB, f api.Format, w, h int, pix []int) {
	t.Helper()
	var vals, left []int
	for _, colour := range pix {
		vals = append(vals, format.Value(f, colour))
		left = append(left, format.Quant(f, colour))
	}
	ground := groundOf(vals)
	want := text(f, ground, piecesOf(w, h, vals, ground))
	s, e := rre.Encode(f, w, h, pix)
	if s != want || e != api.OK {
		t.Fatalf("Encode(%+v, %d, %d, %x): % x, %v; want % x", f, w, h, pix, s, e, want)
	}
	if count := binary.BigEndian.Uint32([]byte(s[:4])); int(count) > w*h {
		t.Fatalf("Encode(%+v, %d, %d, %x): %d pieces", f, w, h, pix, count)
	}
	for _, more := range behind {
		if p, n, e := rre.Decode(f, w, h, s+more); !slices.Equal(p, left) || n != len(s) || e != api.OK {
			t.Fatalf("Decode(%+v, %d, %d, % x): %x, %d, %v; want %x", f, w, h, s+more, p, n, e, left)
		}
	}
}

// drawn are w times h numbers: one, and rectangles of others on it, by chance, each less than most.
func drawn(pick func(n int) int, w, h, most int) []int {
	l := slices.Repeat([]int{pick(most)}, w*h)
	if w*h == 0 {
		return l
	}
	for range pick(12) {
		v, x, y := pick(most), pick(w), pick(h)
		width, height := 1+pick(w-x), 1+pick(h-y)
		for i := range width * height {
			l[(y+i/width)*w+x+i%width] = v
		}
	}
	return l
}

// digits are the n numbers, each less than base, that count makes.
func digits(count, base, n int) []int {
	l := make([]int, n)
	for i := range l {
		l[i] = count % base
		count /= base
	}
	return l
}

func power(base, n int) int {
	p := 1
	for range n {
		p *= base
	}
	return p
}

func TestExample(t *testing.T) {
	if l := rre.Pieces(2, 2, []int{1, 2, 2, 2}, 2); !slices.Equal(l, []rre.Piece{piece(1, 0, 0, 1, 1)}) {
		t.Error(l)
	}
}

func TestGroundByHand(t *testing.T) {
	for i, x := range []struct {
		vals []int
		want int
	}{
		{nil, 0}, {[]int{}, 0}, {[]int{7}, 7}, {[]int{-7}, -7}, {[]int{0}, 0},
		{[]int{1, 2, 2}, 2}, {[]int{2, 1, 2}, 2}, {[]int{2, 2, 1}, 2}, {[]int{1, 1, 2}, 1},
		// Of equal ones the least.
		{[]int{2, 1}, 1}, {[]int{1, 2}, 1}, {[]int{5, 7, 5, 7, 1}, 5}, {[]int{7, 7, 5, 5, 6, 6}, 5}, {[]int{3, 2, 1, 0}, 0}, {[]int{0, -1}, -1}, {[]int{9, -9, 9, -9, 0}, -9},
		// It needs neither come first, nor be the least, nor be 0.
		{[]int{0, 0, 9, 9, 9}, 9}, {[]int{-5, -5, 4, 4, 4}, 4}, {[]int{0, 3, 3}, 3},
		{edges, math.MinInt}, {append([]int{math.MaxInt}, edges...), math.MaxInt}, {[]int{math.MaxInt, math.MinInt}, math.MinInt}, {[]int{1 << 32, 0, 1 << 32}, 1 << 32},
	} {
		if n := rre.Ground(x.vals); n != x.want {
			t.Errorf("%d: Ground(%v): %d, want %d", i, x.vals, n, x.want)
		}
	}
}

func TestGroundOfAllShortLists(t *testing.T) {
	for n := range 8 {
		for count := range power(4, n) {
			vals := digits(count, 4, n)
			for i := range vals {
				vals[i] -= 2
			}
			kept := slices.Clone(vals)
			if g := rre.Ground(vals); g != groundOf(vals) || !slices.Equal(vals, kept) {
				t.Fatalf("Ground(%v): %d, want %d", kept, g, groundOf(kept))
			}
		}
	}
}

func TestGroundOfLongLists(t *testing.T) {
	pick := chance(1)
	for i := range 300 {
		var vals []int
		for range pick(400) {
			vals = append(vals, edges[pick(1+i%len(edges))]+pick(1+i/100))
		}
		// What comes of it hangs on no order: neither on theirs, nor on a map's.
		want := groundOf(vals)
		for range 5 {
			if g := rre.Ground(vals); g != want {
				t.Fatalf("Ground(%v): %d, want %d", vals, g, want)
			}
			slices.Reverse(vals)
		}
	}
}

func TestPiecesByHand(t *testing.T) {
	for i, x := range []struct {
		w, h   int
		vals   []int
		ground int
		want   []rre.Piece
	}{
		{1, 1, []int{5}, 5, nil}, {1, 1, []int{5}, 0, []rre.Piece{piece(5, 0, 0, 1, 1)}}, {1, 1, []int{0}, 5, []rre.Piece{piece(0, 0, 0, 1, 1)}},
		{3, 1, []int{1, 1, 1}, 0, []rre.Piece{piece(1, 0, 0, 3, 1)}}, {1, 3, []int{1, 1, 1}, 0, []rre.Piece{piece(1, 0, 0, 1, 3)}}, {3, 2, []int{1, 1, 1, 1, 1, 1}, 0, []rre.Piece{piece(1, 0, 0, 3, 2)}},
		// To the right ahead of down.
		{2, 2, []int{1, 1, 1, 0}, 0, []rre.Piece{piece(1, 0, 0, 2, 1), piece(1, 0, 1, 1, 1)}},
		// A row below may be longer: what is left of it is another piece.
		{3, 2, []int{1, 1, 0, 1, 1, 1}, 0, []rre.Piece{piece(1, 0, 0, 2, 2), piece(1, 2, 1, 1, 1)}},
		{3, 2, []int{0, 1, 0, 1, 1, 1}, 0, []rre.Piece{piece(1, 1, 0, 1, 2), piece(1, 0, 1, 1, 1), piece(1, 2, 1, 1, 1)}},
		// No place is in two pieces, neither to the right nor down.
		{3, 3, []int{0, 1, 0, 1, 1, 1, 1, 1, 1}, 0, []rre.Piece{piece(1, 1, 0, 1, 3), piece(1, 0, 1, 1, 2), piece(1, 2, 1, 1, 2)}},
		{4, 2, []int{0, 0, 1, 1, 1, 1, 1, 1}, 0, []rre.Piece{piece(1, 2, 0, 2, 2), piece(1, 0, 1, 2, 1)}},
		{3, 3, []int{0, 0, 1, 1, 1, 1, 1, 1, 1}, 0, []rre.Piece{piece(1, 2, 0, 1, 3), piece(1, 0, 1, 2, 2)}},
		// Another row breaks it, and the rows behind are another piece.
		{2, 3, []int{1, 1, 1, 2, 1, 1}, 0, []rre.Piece{piece(1, 0, 0, 2, 1), piece(1, 0, 1, 1, 2), piece(2, 1, 1, 1, 1), piece(1, 1, 2, 1, 1)}},
		// A row's end is not beside the next row's beginning.
		{2, 2, []int{0, 1, 1, 0}, 0, []rre.Piece{piece(1, 1, 0, 1, 1), piece(1, 0, 1, 1, 1)}},
		// The ground need not be the one that comes most often, nor come at all.
		{2, 2, []int{1, 1, 1, 2}, 2, []rre.Piece{piece(1, 0, 0, 2, 1), piece(1, 0, 1, 1, 1)}}, {2, 1, []int{1, 2}, 3, []rre.Piece{piece(1, 0, 0, 1, 1), piece(2, 1, 0, 1, 1)}},
		{2, 2, []int{math.MinInt, math.MaxInt, math.MinInt, math.MaxInt}, -1, []rre.Piece{piece(math.MinInt, 0, 0, 1, 2), piece(math.MaxInt, 1, 0, 1, 2)}}, {2, 1, []int{1 << 32, 0}, 0, []rre.Piece{piece(1<<32, 0, 0, 1, 1)}},
	} {
		if l := rre.Pieces(x.w, x.h, x.vals, x.ground); !slices.Equal(l, x.want) {
			t.Errorf("%d: %v, want %v", i, l, x.want)
		}
	}
}

func TestPiecesOfAllSmallRectangles(t *testing.T) {
	t.Parallel()
	for _, x := range []struct{ w, h, kinds int }{
		{0, 0, 1}, {0, 3, 1}, {3, 0, 1}, {1, 1, 4}, {1, 6, 3}, {6, 1, 3}, {2, 2, 4}, {2, 3, 3}, {3, 2, 3}, {2, 4, 3}, {4, 2, 3}, {3, 3, 3}, {3, 4, 2}, {4, 3, 2}, {2, 6, 2}, {6, 2, 2}, {5, 3, 2}, {3, 5, 2},
	} {
		for count := range power(x.kinds, x.w*x.h) {
			vals := digits(count, x.kinds, x.w*x.h)
			for ground := range x.kinds + 1 {
				checkPieces(t, x.w, x.h, vals, ground)
			}
		}
	}
}

func TestPiecesByChance(t *testing.T) {
	t.Parallel()
	pick := chance(2)
	for i := range 1500 {
		w, h := pick(40), pick(40)
		vals := drawn(pick, w, h, 5)
		if i%3 == 0 {
			for j := range vals {
				vals[j] = edges[pick(2+i%9)]
			}
		}
		for _, ground := range []int{rre.Ground(vals), pick(5), math.MinInt, -77} {
			checkPieces(t, w, h, vals, ground)
		}
	}
}

func TestPiecesOfWhatCannotBe(t *testing.T) {
	lists := [][]int{nil, {5}, {5, 6}, {5, 6, 7, 8}, make([]int, 4096), make([]int, 4097), make([]int, 8192)}
	for _, w := range sides {
		for _, h := range sides {
			for _, vals := range lists {
				l := rre.Pieces(w, h, vals, -1)
				if w >= 0 && w <= 4096 && h >= 0 && h <= 4096 && w*h == len(vals) {
					if !slices.Equal(l, piecesOf(w, h, vals, -1)) {
						t.Errorf("Pieces(%d, %d, %d of them): %v", w, h, len(vals), l)
					}
				} else if len(l) != 0 {
					t.Errorf("Pieces(%d, %d, %d of them): %v", w, h, len(vals), l)
				}
			}
		}
	}
	// The products are right, but the sides can't be.
	for _, x := range [][2]int{{-1, -4}, {-4, -1}, {-2, -2}} {
		if l := rre.Pieces(x[0], x[1], []int{1, 2, 3, 4}, 0); len(l) != 0 {
			t.Errorf("Pieces(%v): %v", x, l)
		}
	}
	if l := rre.Pieces(4097, 1, make([]int, 4097), 5); len(l) != 0 {
		t.Error(l)
	}
	if l := rre.Pieces(1, 4097, make([]int, 4097), 5); len(l) != 0 {
		t.Error(l)
	}
	// And one place too few, or too many.
	for _, n := range []int{0, 1, 5, 7, 12} {
		if l := rre.Pieces(3, 2, make([]int, n), 5); len(l) != 0 {
			t.Errorf("%d: %v", n, l)
		}
	}
}

func TestEncodeByHand(t *testing.T) {
	white, red, green := 0xffffff, 0xff0000, 0x00ff00
	for i, x := range []struct {
		f    api.Format
		w, h int
		pix  []int
		s    string
		e    api.Errno
	}{
		{low, 1, 1, []int{red}, "\x00\x00\x00\x00\x07", api.OK}, {low, 2, 1, []int{red, red}, "\x00\x00\x00\x00\x07", api.OK},
		{low, 3, 1, []int{0, white, 0}, "\x00\x00\x00\x01\x00\xff\x00\x01\x00\x00\x00\x01\x00\x01", api.OK},
		{low, 2, 2, []int{red, red, green, red}, "\x00\x00\x00\x01\x07\x38\x00\x00\x00\x01\x00\x01\x00\x01", api.OK},
		{low, 3, 2, []int{0, red, green, 0, red, 0}, "\x00\x00\x00\x02\x00\x07\x00\x01\x00\x00\x00\x01\x00\x02\x38\x00\x02\x00\x00\x00\x01\x00\x01", api.OK},
		// The ground is the least value, not the least colour: of red and white 7.
		{low, 2, 1, []int{white, red}, "\x00\x00\x00\x01\x07\xff\x00\x00\x00\x00\x00\x01\x00\x01", api.OK},
		{low, 2, 1, []int{green, red}, "\x00\x00\x00\x01\x07\x38\x00\x00\x00\x00\x00\x01\x00\x01", api.OK},
		// Other colours, but one value.
		{low, 3, 1, []int{0, 1, 2}, "\x00\x00\x00\x00\x00", api.OK},
		{middle, 2, 1, []int{0xff8000, 0}, "\x00\x00\x00\x01\x00\x00\x00\xfc\x00\x00\x00\x00\x00\x01\x00\x01", api.OK}, {turned, 2, 1, []int{0, 0xff8000}, "\x00\x00\x00\x01\x00\x00\xfc\x00\x00\x01\x00\x00\x00\x01\x00\x01", api.OK},
		{big, 1, 3, []int{5, 5, 0x010203}, "\x00\x00\x00\x01\x00\x00\x00\x05\x00\x01\x02\x03\x00\x00\x00\x02\x00\x01\x00\x01", api.OK},
		// Just the lowest 24 bits of a colour count.
		{format.Standard(), 2, 2, []int{-1, 1<<24 + 0xffffff, white, math.MaxInt}, "\x00\x00\x00\x00\xff\xff\xff\x00", api.OK},
		{low, 0, 0, nil, "\x00\x00\x00\x00\x00", api.OK}, {turned, 0, 4096, nil, "\x00\x00\x00\x00\x00\x00", api.OK}, {big, 4096, 0, []int{}, "\x00\x00\x00\x00\x00\x00\x00\x00", api.OK},
		{low, 1, 1, nil, "", api.ErrArg}, {low, 2, 2, []int{1, 2, 3}, "", api.ErrArg}, {low, 2, 2, []int{1, 2, 3, 4, 5}, "", api.ErrArg}, {low, 0, 0, []int{1}, "", api.ErrArg},
		{low, -1, -1, []int{1}, "", api.ErrArg}, {low, -1, 0, nil, "", api.ErrArg}, {low, 0, -1, nil, "", api.ErrArg}, {low, 4097, 0, nil, "", api.ErrArg}, {low, 0, 4097, nil, "", api.ErrArg}, {low, 1 << 32, 1 << 32, nil, "", api.ErrArg},
		{api.Format{}, 1, 1, []int{1}, "", api.ErrArg}, {api.Format{}, 0, 0, nil, "", api.ErrArg},
	} {
		if s, e := rre.Encode(x.f, x.w, x.h, x.pix); s != x.s || e != x.e {
			t.Errorf("%d: % x, %v; want % x, %v", i, s, e, x.s, x.e)
		}
	}
}

func TestWhatIsEncodedIsDecodedAgain(t *testing.T) {
	t.Parallel()
	pick := chance(3)
	for _, f := range formats() {
		for i := range 80 {
			w, h := pick(24), pick(24)
			pix := drawn(pick, w, h, 1<<24)
			if i%4 == 0 {
				for j := range pix {
					pix[j] = pick(1 << 24)
				}
			}
			if i%5 == 0 && len(pix) > 0 {
				pix[pick(len(pix))] = edges[pick(len(edges))]
			}
			checkEncode(t, f, w, h, pix)
		}
		checkEncode(t, f, len(edges), 1, edges)
		checkEncode(t, f, 1, len(edges), edges)
	}
}

func TestEncodeOfAllSmallRectangles(t *testing.T) {
	t.Parallel()
	colours := []int{0, 0xff0000, 0x00ff00}
	for _, x := range [][2]int{{0, 0}, {0, 2}, {2, 0}, {1, 1}, {1, 4}, {4, 1}, {2, 2}, {2, 3}, {3, 2}} {
		for count := range power(3, x[0]*x[1]) {
			pix := digits(count, 3, x[0]*x[1])
			for i, n := range pix {
				pix[i] = colours[n]
			}
			for _, f := range []api.Format{format.Standard(), low, turned} {
				checkEncode(t, f, x[0], x[1], pix)
			}
		}
	}
}

func TestEncodeOfWhatCannotBe(t *testing.T) {
	lists := [][]int{nil, {5}, {5, 6}, {5, 6, 7, 8}, make([]int, 4096), make([]int, 4097)}
	for _, w := range sides {
		for _, h := range sides {
			for _, pix := range lists {
				for _, f := range []api.Format{low, format.Standard()} {
					if w >= 0 && w <= 4096 && h >= 0 && h <= 4096 && w*h == len(pix) {
						checkEncode(t, f, w, h, pix)
					} else if s, e := rre.Encode(f, w, h, pix); s != "" || e != api.ErrArg {
						t.Errorf("Encode(%+v, %d, %d, %d of them): % x, %v", f, w, h, len(pix), s, e)
					}
				}
			}
		}
	}
	for _, f := range spoilt() {
		for _, pix := range lists {
			if s, e := rre.Encode(f, len(pix), 1, pix); s != "" || e != api.ErrArg {
				t.Errorf("Encode(%+v, %d): % x, %v", f, len(pix), s, e)
			}
		}
	}
}

func TestDecodeByHand(t *testing.T) {
	red, green, blue := 0xff0000, 0x00ff00, 0x0000ff
	for i, x := range []struct {
		f    api.Format
		w, h int
		s    string
		pix  []int
		n    int
		e    api.Errno
	}{
		{low, 2, 1, "\x00\x00\x00\x00\x07", []int{red, red}, 5, api.OK}, {low, 1, 2, "\x00\x00\x00\x00\x07behind", []int{red, red}, 5, api.OK},
		{low, 2, 1, "\x00\x00\x00\x01\x07\x38\x00\x01\x00\x00\x00\x01\x00\x01", []int{red, green}, 14, api.OK},
		{low, 2, 2, "\x00\x00\x00\x01\x07\x38\x00\x00\x00\x01\x00\x02\x00\x01x", []int{red, red, green, green}, 14, api.OK},
		// Piece by piece: of two at one place the later one.
		{low, 3, 1, "\x00\x00\x00\x02\x07\x38\x00\x00\x00\x00\x00\x02\x00\x01\xc0\x00\x01\x00\x00\x00\x02\x00\x01", []int{green, blue, blue}, 23, api.OK},
		{low, 3, 1, "\x00\x00\x00\x02\x07\xc0\x00\x01\x00\x00\x00\x02\x00\x01\x38\x00\x00\x00\x00\x00\x02\x00\x01", []int{green, green, blue}, 23, api.OK},
		{low, 2, 1, "\x00\x00\x00\x02\x07\x38\x00\x00\x00\x00\x00\x02\x00\x01\x07\x00\x00\x00\x00\x00\x01\x00\x01", []int{red, green}, 23, api.OK},
		// As many pieces as there are places may be, one more may not.
		{low, 1, 1, "\x00\x00\x00\x01\x07\x38\x00\x00\x00\x00\x00\x01\x00\x01", []int{green}, 14, api.OK}, {low, 1, 1, "\x00\x00\x00\x02\x07\x38\x00\x00\x00\x00\x00\x01\x00\x01\x38\x00\x00\x00\x00\x00\x01\x00\x01", nil, 0, api.ErrLarge},
		// Pieces of no places are inside up to the edges.
		{low, 1, 1, "\x00\x00\x00\x01\x07\x38\x00\x01\x00\x01\x00\x00\x00\x00", []int{red}, 14, api.OK}, {low, 1, 1, "\x00\x00\x00\x01\x07\x38\x00\x00\x00\x00\x00\x01\x00\x00", []int{red}, 14, api.OK}, {low, 1, 1, "\x00\x00\x00\x01\x07\x38\x00\x00\x00\x00\x00\x00\x00\x01", []int{red}, 14, api.OK},
		{low, 1, 1, "\x00\x00\x00\x01\x07\x38\x00\x02\x00\x00\x00\x00\x00\x00", nil, 0, api.ErrRect}, {low, 1, 1, "\x00\x00\x00\x01\x07\x38\x00\x00\x00\x02\x00\x00\x00\x00", nil, 0, api.ErrRect},
		{low, 1, 1, "\x00\x00\x00\x01\x07\x38\x00\x00\x00\x00\x00\x02\x00\x01", nil, 0, api.ErrRect}, {low, 1, 1, "\x00\x00\x00\x01\x07\x38\x00\x00\x00\x00\x00\x01\x00\x02", nil, 0, api.ErrRect}, {low, 1, 1, "\x00\x00\x00\x01\x07\x38\x00\x01\x00\x00\x00\x01\x00\x01", nil, 0, api.ErrRect},
		{low, 1, 1, "\x00\x00\x00\x01\x07\x38\xff\xff\xff\xff\xff\xff\xff\xff", nil, 0, api.ErrRect},
		// The numbers are X, Y, W, H, and the sides are not each other's.
		{low, 3, 1, "\x00\x00\x00\x01\x07\x38\x00\x01\x00\x00\x00\x02\x00\x01", []int{red, green, green}, 14, api.OK}, {low, 1, 3, "\x00\x00\x00\x01\x07\x38\x00\x01\x00\x00\x00\x02\x00\x01", nil, 0, api.ErrRect}, {low, 1, 3, "\x00\x00\x00\x01\x07\x38\x00\x00\x00\x01\x00\x01\x00\x02", []int{red, green, green}, 14, api.OK},
		{middle, 1, 1, "\x00\x00\x00\x00\x00\xfc", []int{0xff8200}, 6, api.OK}, {turned, 2, 1, "\x00\x00\x00\x01\xfc\x00\x00\x1f\x00\x00\x00\x00\x00\x01\x00\x01", []int{blue, 0xff8200}, 16, api.OK},
		{big, 1, 1, "\x00\x00\x00\x00\x55\x01\x02\x03", []int{0x010203}, 8, api.OK}, {format.Standard(), 1, 1, "\x00\x00\x00\x00\x03\x02\x01\x55", []int{0x010203}, 8, api.OK},
		// Without places a ground is read, and no piece may be.
		{low, 0, 0, "\x00\x00\x00\x00\x07", nil, 5, api.OK}, {low, 0, 4096, "\x00\x00\x00\x00\x07x", nil, 5, api.OK}, {big, 4096, 0, "\x00\x00\x00\x00abcd", nil, 8, api.OK}, {low, 0, 9, "\x00\x00\x00\x01\x07", nil, 0, api.ErrLarge}, {low, 0, 0, "\x00\x00\x00\x00", nil, 0, api.ErrMore},
		{low, 1, 1, "", nil, 0, api.ErrMore}, {low, 1, 1, "\xff\xff\xff", nil, 0, api.ErrMore}, {low, 1, 1, "\x00\x00\x00\x00", nil, 0, api.ErrMore}, {middle, 1, 1, "\x00\x00\x00\x00\x07", nil, 0, api.ErrMore}, {low, 1, 1, "\x00\x00\x00\x01\x07", nil, 0, api.ErrMore},
		// The first error: more pieces than places ahead of a ground that is not there,
		{low, 3, 1, "\x00\x00\x00\x04", nil, 0, api.ErrLarge}, {low, 3, 1, "\xff\xff\xff\xff", nil, 0, api.ErrLarge}, {low, 3, 1, "\x80\x00\x00\x00\x07", nil, 0, api.ErrLarge}, {low, 4096, 4096, "\x01\x00\x00\x01", nil, 0, api.ErrLarge}, {low, 4096, 4096, "\x01\x00\x00\x00", nil, 0, api.ErrMore},
		// a piece that is not inside ahead of another one that is not there, but not ahead of its own bytes.
		{low, 3, 1, "\x00\x00\x00\x02\x07\x38\x00\x03\x00\x00\x00\x01\x00\x01", nil, 0, api.ErrRect}, {low, 3, 1, "\x00\x00\x00\x02\x07\x38\x00\x03\x00\x00\x00\x01\x00\x01\x38", nil, 0, api.ErrRect}, {low, 3, 1, "\x00\x00\x00\x02\x07\x38\x00\x04\x00\x00\x00\x01\x00", nil, 0, api.ErrMore},
		{low, 3, 1, "\x00\x00\x00\x02\x07\x38\x00\x02\x00\x00\x00\x01\x00\x01", nil, 0, api.ErrMore}, {low, 3, 1, "\x00\x00\x00\x02\x07\x38\x00\x02\x00\x00\x00\x01\x00\x01\x38\x00\x00\x00\x01\x00\x01\x00\x01", nil, 0, api.ErrRect},
		// ErrArg comes ahead of all.
		{low, 4097, 1, "\xff\xff\xff\xff", nil, 0, api.ErrArg}, {low, 1, 4097, "", nil, 0, api.ErrArg}, {low, -1, -1, "\x00\x00\x00\x00\x07", nil, 0, api.ErrArg}, {low, 0, -1, "\x00\x00\x00\x00\x07", nil, 0, api.ErrArg}, {low, -1, 0, "\x00\x00\x00\x01\x07", nil, 0, api.ErrArg}, {low, 1 << 32, 1 << 32, "\x00\x00\x00\x00\x07", nil, 0, api.ErrArg},
		{api.Format{}, 1, 1, "\x00\x00\x00\x00\x07", nil, 0, api.ErrArg}, {api.Format{}, 0, 0, "", nil, 0, api.ErrArg},
	} {
		if p, n, e := rre.Decode(x.f, x.w, x.h, x.s); !slices.Equal(p, x.pix) || n != x.n || e != x.e {
			t.Errorf("%d: %x, %d, %v; want %x, %d, %v", i, p, n, e, x.pix, x.n, x.e)
		}
		checkDecode(t, x.f, min(x.w, 9), min(x.h, 9), x.s)
	}
}

// pieces are n by chance; most of them are inside, and they may cover each other.
func pieces(pick func(n int) int, w, h, n int) []rre.Piece {
	var l []rre.Piece
	for range n {
		x, y := pick(w+1), pick(h+1)
		r := rect(x, y, pick(w-x+1), pick(h-y+1))
		if pick(60) == 0 {
			r.W += 1 + pick(3)
		}
		if pick(60) == 0 {
			r.H += 1 + pick(3)
		}
		l = append(l, rre.Piece{Value: pick(1 << 32), Rect: r})
	}
	return l
}

func TestDecodeByChance(t *testing.T) {
	t.Parallel()
	pick := chance(4)
	came := map[api.Errno]int{}
	for _, f := range formats() {
		for range 250 {
			w, h := pick(9), pick(9)
			s := text(f, pick(1<<32), pieces(pick, w, h, pick(w*h+2)))
			for _, more := range behind {
				came[checkDecode(t, f, w, h, s+more)]++
			}
			came[checkDecode(t, f, w, h, s[:pick(len(s)+1)])]++
			b := []byte(s)
			b[pick(len(b))] = byte(pick(256))
			came[checkDecode(t, f, w, h, string(b))]++
		}
	}
	for _, e := range []api.Errno{api.OK, api.ErrMore, api.ErrLarge, api.ErrRect} {
		if came[e] < 100 {
			t.Errorf("%v came %d times", e, came[e])
		}
	}
}

func TestDecodeOfAllBeginnings(t *testing.T) {
	t.Parallel()
	pick := chance(5)
	for _, f := range formats() {
		pix := []int{1 << 16, 0xff00, 0xff, 0xffffff, 0, 0xff00, 0xffffff, 0xff00, 0xff0000, 0xffff, 0xff00ff, 0xffff00}
		s, e := rre.Encode(f, 4, 3, pix)
		if e != api.OK {
			t.Fatal(e)
		}
		for n := range len(s) {
			if p, k, e := rre.Decode(f, 4, 3, s[:n]); len(p) != 0 || k != 0 || e != api.ErrMore {
				t.Fatalf("%+v, % x: %x, %d, %v", f, s[:n], p, k, e)
			}
		}
		// Whatever one byte becomes.
		for i := range s {
			for range 20 {
				checkDecode(t, f, 4, 3, s[:i]+string([]byte{byte(pick(256))})+s[i+1:])
			}
			checkDecode(t, f, 4, 3, s[:i]+"\xff"+s[i+1:])
			checkDecode(t, f, 3, 4, s[:i]+"\x00"+s[i+1:])
		}
	}
}

func TestDecodeOfAllSides(t *testing.T) {
	texts := []string{"", "a", "in the rain", "\xff\xff\xff\xff", "\x00\x00\x00\x00", "\x00\x00\x00\x00abcd", "\x00\x00\x00\x01abcdefgh\x00\x00\x00\x00\x00\x01\x00\x01"}
	for _, w := range sides {
		for _, h := range sides {
			if min(w, h) > 1000 && max(w, h) <= 4096 {
				continue // TestGreatestRectangle has these
			}
			for _, s := range texts {
				for _, f := range []api.Format{low, big, {}} {
					checkDecode(t, f, w, h, s)
				}
			}
		}
	}
	for _, f := range spoilt() {
		for _, s := range texts {
			checkDecode(t, f, 2, 2, s)
		}
	}
}

func TestGreatestRectangle(t *testing.T) {
	t.Parallel()
	const side = 4096
	pix := slices.Repeat([]int{0xff0000}, side*side)
	for y := range side {
		pix[y*side+side-1] = 0xffffff
		pix[y*side+1] = 0x00ff00
	}
	pix[side*side-1] = 0
	want := text(low, 7, []rre.Piece{piece(0x38, 1, 0, 1, 4096), piece(0xff, 4095, 0, 1, 4095), piece(0, 4095, 4095, 1, 1)})
	s, e := rre.Encode(low, side, side, pix)
	if s != want || e != api.OK {
		t.Fatalf("% x, %v; want % x", s, e, want)
	}
	if p, n, e := rre.Decode(low, side, side, s+"x"); !slices.Equal(p, pix) || n != len(s) || e != api.OK {
		t.Errorf("%d, %d, %v", len(p), n, e)
	}
	for _, x := range []struct {
		p rre.Piece
		e api.Errno
	}{
		{piece(0, 0, 0, 4096, 4096), api.OK}, {piece(0, 4096, 4096, 0, 0), api.OK}, {piece(0, 4095, 4095, 1, 1), api.OK},
		{piece(0, 0, 0, 4097, 4096), api.ErrRect}, {piece(0, 0, 0, 4096, 4097), api.ErrRect}, {piece(0, 4096, 0, 1, 1), api.ErrRect}, {piece(0, 0, 4096, 1, 1), api.ErrRect}, {piece(0, 65535, 1, 1, 1), api.ErrRect}, {piece(0, 1, 1, 65535, 1), api.ErrRect},
	} {
		if _, _, e := rre.Decode(low, side, side, text(low, 7, []rre.Piece{x.p})); e != x.e {
			t.Errorf("%v: %v", x.p, e)
		}
	}
}

func TestLongestRows(t *testing.T) {
	t.Parallel()
	for _, x := range [][2]int{{4096, 1}, {1, 4096}, {4096, 3}, {3, 4096}} {
		pix := make([]int, x[0]*x[1])
		for i := range pix {
			pix[i] = []int{0, 0xff0000, 0x00ff00}[i%3]
		}
		checkEncode(t, low, x[0], x[1], pix)
		for i := range pix {
			pix[i] = i * 40503 & 0xffffff
		}
		checkEncode(t, big, x[0], x[1], pix)
	}
}

func TestFewBytesNeverCostTheRoomOfManyPlaces(t *testing.T) {
	far := text(low, 7, []rre.Piece{piece(0, 0, 0, 1, 1), piece(0, 0, 0, 4097, 1)})
	var before, after runtime.MemStats
	runtime.ReadMemStats(&before)
	for range 100 {
		for _, s := range []string{"", "\x00\x00\x00\x00", "\x00\xff\xff\xff", "\x00\xff\xff\xffin the rain in the rain", "\xff\xff\xff\xff", "\x01\x00\x00\x00\x07", far} {
			if _, _, e := rre.Decode(low, 4096, 4096, s); e == api.OK {
				t.Errorf("% x: %v", s, e)
			}
		}
	}
	runtime.ReadMemStats(&after)
	if room := after.TotalAlloc - before.TotalAlloc; room > 1<<24 {
		t.Errorf("%d bytes", room)
	}
}

func TestWhatIsHandedInIsNotChangedAndNotShared(t *testing.T) {
	for _, f := range append(formats(), api.Format{}) {
		pix := append(make([]int, 0, 99), edges...)
		one, _ := rre.Encode(f, len(pix), 1, pix)
		if !slices.Equal(pix, edges) {
			t.Fatalf("%+v: %x", f, pix)
		}
		clear(pix)
		if two, _ := rre.Encode(f, len(pix), 1, edges); one != two {
			t.Fatalf("%+v: % x, % x", f, one, two)
		}
	}
	vals := append(make([]int, 0, 99), 1, 2, 2, 3)
	a, b := rre.Pieces(2, 2, vals, 2), rre.Pieces(2, 2, vals, 2)
	clear(vals[:99])
	clear(a[:cap(a)])
	if !slices.Equal(b, []rre.Piece{piece(1, 0, 0, 1, 1), piece(3, 1, 1, 1, 1)}) {
		t.Error(b)
	}
	s := text(low, 7, []rre.Piece{piece(0, 1, 0, 1, 1)})
	p, _, _ := rre.Decode(low, 3, 1, s)
	q, _, _ := rre.Decode(low, 3, 1, s)
	clear(p[:cap(p)])
	if !slices.Equal(q, []int{0xff0000, 0, 0xff0000}) {
		t.Errorf("%x", q)
	}
}

func TestManyAtATime(t *testing.T) {
	faults := make([]int, 8)
	all := drawn(chance(6), 30, 20, 5)
	var done sync.WaitGroup
	for i := range faults {
		done.Go(func() {
			pick := chance(uint64(i))
			for _, f := range formats() {
				w, h := 1+pick(30), 1+pick(30)
				pix := drawn(pick, w, h, 1<<24)
				s, _ := rre.Encode(f, w, h, pix)
				p, n, e := rre.Decode(f, w, h, s)
				if n != len(s) || e != api.OK || !slices.EqualFunc(p, pix, func(a, b int) bool { return a == format.Quant(f, b) }) {
					faults[i]++
				}
				// All of them look at one list.
				if g := rre.Ground(all); g != groundOf(all) || !slices.Equal(rre.Pieces(30, 20, all, g), piecesOf(30, 20, all, g)) {
					faults[i]++
				}
			}
		})
	}
	done.Wait()
	if !slices.Equal(faults, make([]int, 8)) {
		t.Error(faults)
	}
}

func BenchmarkEncode(b *testing.B) {
	f, pix := format.Standard(), drawn(chance(7), 640, 480, 1<<24)
	for b.Loop() {
		rre.Encode(f, 640, 480, pix)
	}
}

func BenchmarkDecode(b *testing.B) {
	f := format.Standard()
	s, _ := rre.Encode(f, 640, 480, drawn(chance(8), 640, 480, 1<<24))
	for b.Loop() {
		rre.Decode(f, 640, 480, s)
	}
}

func FuzzAll(f *testing.F) {
	for i, x := range formats() {
		s, _ := rre.Encode(x, 3, 2, []int{0, 0xff0000, 0, 0xff00, 0xff00, 0xff})
		f.Add(format.Bytes(x), 3, 2, s, i)
	}
	for i, n := range edges {
		f.Add(format.Bytes(low), n, edges[len(edges)-1-i], "\x00\x00\x00\x01\x07\x38\x00\x02\x00\x00\x00\x01\x00\x01", n)
		f.Add("", n, n, "", n)
	}
	f.Fuzz(func(t *testing.T, head string, w, h int, s string, ground int) {
		x, _ := format.Parse(head)
		if w >= 0 && w <= 4096 && h >= 0 && h <= 4096 {
			w, h = w%50, h%50
		}
		checkDecode(t, x, w, h, s)
		var vals []int
		for _, r := range s {
			vals = append(vals, int(r))
		}
		if g := rre.Ground(vals); g != groundOf(vals) {
			t.Fatalf("Ground(%v): %d", vals, g)
		}
		if w < 0 || w > 4096 || h < 0 || h > 4096 || w*h != len(vals) {
			if l := rre.Pieces(w, h, vals, ground); len(l) != 0 {
				t.Fatalf("Pieces(%d, %d, %v): %v", w, h, vals, l)
			}
			if s, e := rre.Encode(x, w, h, vals); s != "" || e != api.ErrArg {
				t.Fatalf("Encode(%+v, %d, %d, %v): % x, %v", x, w, h, vals, s, e)
			}
		}
		// And what as many places as there are may be.
		w = 1 + int(uint(w)%7)
		h = len(vals) / w
		if vals = vals[:w*h]; h > 4096 {
			return
		}
		checkPieces(t, w, h, vals, ground)
		checkPieces(t, w, h, vals, rre.Ground(vals))
		if format.Valid(x) {
			checkEncode(t, x, w, h, vals)
		}
	})
}

func TestSourceStandsOnThoseBelowAlone(t *testing.T) {
	src, err := os.ReadFile("rre.go")
	if err != nil {
		t.Fatal(err)
	}
	f, err := parser.ParseFile(token.NewFileSet(), "rre.go", src, 0)
	if err != nil {
		t.Fatal(err)
	}
	for _, i := range f.Imports {
		if !slices.Contains([]string{`"slices"`, `"strings"`, `"mirador/api"`, `"mirador/format"`, `"mirador/octets"`, `"mirador/plain"`, `"mirador/screen"`}, i.Path.Value) {
			t.Errorf("import of %s", i.Path.Value)
		}
	}
	maps, arrays, ranges := 0, 0, 0
	ast.Inspect(f, func(n ast.Node) bool {
		switch x := n.(type) {
		case *ast.MapType:
			maps++
		case *ast.ArrayType:
			if x.Len != nil {
				arrays++
			}
		case *ast.RangeStmt:
			if strings.HasSuffix(types.ExprString(x.X), ".H") {
				ranges++
			}
		}
		return true
	})
	if maps == 0 || arrays == 0 || ranges == 0 {
		t.Errorf("%d maps, %d arrays, %d ranges over a rectangle's rows", maps, arrays, ranges)
	}
	if tidy, err := layout.Source(src); err != nil || string(tidy) != string(src) {
		t.Errorf("not gofmt's layout: %v", err)
	}
}
