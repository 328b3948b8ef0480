package screen_test

import (
	"go/ast"
	"go/format"
	"go/parser"
	"go/token"
	"math"
	"math/big"
	"os"
	"slices"
	"sync"
	"testing"

	"mirador/api"
	"mirador/screen"
)

const white = 1<<24 - 1

// edges are numbers at and around the edges of sides, of colours and of ints.
var edges = []int{
	math.MinInt, math.MinInt + 1, math.MinInt / 2, -1 << 32, -1 << 31, -4097, -4096, -2, -1,
	0, 1, 2, 3, 4, 5, 4095, 4096, 4097, 1<<24 - 1, 1 << 24, 1<<31 - 1, 1 << 31, 1 << 32, 1 << 62, math.MaxInt - 1, math.MaxInt,
}

// chance answers numbers from 0 to n - 1, the same ones for every seed.
func chance(seed uint64) func(n int) int {
	return func(n int) int {
		seed = seed*6364136223846793005 + 1442695040888963407
		return int(seed>>33) % n
	}
}

func rect(x, y, w, h int) api.Rect { return api.Rect{X: x, Y: y, W: w, H: h} }

// fresh is a new screen.
func fresh(t testing.TB, w, h int) *screen.Screen {
	t.Helper()
	s, e := screen.New(w, h)
	if s == nil || e != api.OK {
		t.Fatalf("New(%d, %d): %v, %v", w, h, s, e)
	}
	return s
}

// painted is a screen whose places have all other colours: 1, 2, 3 and so on, row by row.
func painted(t testing.TB, w, h int) *screen.Screen {
	t.Helper()
	s := fresh(t, w, h)
	if e := s.Blit(rect(0, 0, w, h), counted(w*h)); e != api.OK {
		t.Fatal(e)
	}
	return s
}

// counted are the colours from 1 to n.
func counted(n int) []int {
	var l []int
	for i := range n {
		l = append(l, i+1)
	}
	return l
}

// inside is the rule for Inside, in numbers that have no bound.
func inside(r api.Rect, w, h int) bool {
	reach := func(at, length, side int) bool {
		end := new(big.Int).Add(big.NewInt(int64(at)), big.NewInt(int64(length)))
		return end.Cmp(big.NewInt(int64(side))) <= 0
	}
	return r.X >= 0 && r.Y >= 0 && r.W >= 0 && r.H >= 0 && reach(r.X, r.W, w) && reach(r.Y, r.H, h)
}

// meet is the rule for Meet, in numbers that have no bound.
func meet(a, b api.Rect) api.Rect {
	common := func(a, lengthA, b, lengthB int) (int, int, bool) {
		begin := big.NewInt(int64(max(a, b)))
		end := new(big.Int).Add(big.NewInt(int64(a)), big.NewInt(int64(lengthA)))
		if other := new(big.Int).Add(big.NewInt(int64(b)), big.NewInt(int64(lengthB))); other.Cmp(end) < 0 {
			end = other
		}
		length := end.Sub(end, begin)
		return max(a, b), int(length.Int64()), length.Sign() > 0
	}
	x, w, wide := common(a.X, a.W, b.X, b.W)
	y, h, high := common(a.Y, a.H, b.Y, b.H)
	if !wide || !high {
		return api.Rect{}
	}
	return rect(x, y, w, h)
}

func TestInsideByHand(t *testing.T) {
	for i, x := range []struct {
		r    api.Rect
		w, h int
		want bool
	}{
		{rect(0, 0, 4, 3), 4, 3, true}, {rect(0, 0, 5, 3), 4, 3, false}, {rect(0, 0, 4, 4), 4, 3, false}, {rect(1, 0, 4, 3), 4, 3, false}, {rect(0, 1, 4, 3), 4, 3, false}, {rect(1, 1, 3, 2), 4, 3, true}, {rect(3, 2, 1, 1), 4, 3, true},
		// No places may stand at the end, but not behind it.
		{rect(4, 3, 0, 0), 4, 3, true}, {rect(5, 3, 0, 0), 4, 3, false}, {rect(4, 4, 0, 0), 4, 3, false}, {rect(4, 0, 0, 3), 4, 3, true}, {rect(0, 3, 4, 0), 4, 3, true}, {rect(4, 0, 1, 0), 4, 3, false}, {rect(0, 3, 0, 1), 4, 3, false},
		// A number below 0, though the end is within.
		{rect(-1, 0, 2, 2), 4, 3, false}, {rect(0, -1, 2, 2), 4, 3, false}, {rect(2, 2, -1, 1), 4, 3, false}, {rect(2, 2, 1, -1), 4, 3, false},
		{rect(0, 0, 0, 0), 0, 0, true}, {rect(0, 0, 0, 0), -1, 0, false}, {rect(0, 0, 0, 0), 0, -1, false}, {rect(0, 0, 0, 0), math.MinInt, math.MinInt, false},
		// Ends that would wrap round.
		{rect(math.MaxInt, 0, math.MaxInt, 1), 4, 3, false}, {rect(1<<62, 0, 1<<62, 1), 4, 3, false}, {rect(0, 1<<62, 1, 1<<62), math.MaxInt, math.MaxInt, false}, {rect(1, 1, math.MaxInt-1, math.MaxInt-1), math.MaxInt, math.MaxInt, true}, {rect(1, 1, math.MaxInt, 1), math.MaxInt, math.MaxInt, false},
	} {
		if got := screen.Inside(x.r, x.w, x.h); got != x.want || inside(x.r, x.w, x.h) != x.want {
			t.Errorf("%d: Inside(%v, %d, %d): %v", i, x.r, x.w, x.h, got)
		}
	}
}

func TestInsideByTheRule(t *testing.T) {
	t.Parallel()
	for _, at := range edges {
		for _, length := range edges {
			for _, side := range edges {
				for _, r := range []api.Rect{rect(at, 0, length, 1), rect(at, at, length, length)} {
					if got := screen.Inside(r, side, 4); got != inside(r, side, 4) {
						t.Fatalf("Inside(%v, %d, 4): %v", r, side, got)
					}
				}
				r := rect(2, at, 1, length)
				if got := screen.Inside(r, 3, side); got != inside(r, 3, side) {
					t.Fatalf("Inside(%v, 3, %d): %v", r, side, got)
				}
			}
		}
	}
}

func TestWhole(t *testing.T) {
	for _, w := range edges {
		for _, h := range edges {
			if r := screen.Whole(w, h); r != rect(0, 0, w, h) {
				t.Errorf("Whole(%d, %d): %v", w, h, r)
			}
			if w >= 0 && h >= 0 && !screen.Inside(screen.Whole(w, h), w, h) {
				t.Errorf("Whole(%d, %d) is not inside", w, h)
			}
		}
	}
}

func TestMeetByHand(t *testing.T) {
	none := api.Rect{}
	for i, x := range [][3]api.Rect{
		{rect(0, 0, 4, 4), rect(0, 0, 4, 4), rect(0, 0, 4, 4)}, {rect(0, 0, 4, 4), rect(1, 1, 2, 2), rect(1, 1, 2, 2)}, {rect(0, 0, 4, 4), rect(2, 3, 9, 9), rect(2, 3, 2, 1)}, {rect(-2, -3, 4, 4), rect(0, 0, 9, 9), rect(0, 0, 2, 1)}, {rect(-5, -5, 3, 3), rect(-4, -6, 3, 3), rect(-4, -5, 2, 2)}, {rect(0, 1, 9, 1), rect(1, 0, 1, 9), rect(1, 1, 1, 1)},
		// They touch, at a side or at a corner.
		{rect(0, 0, 4, 4), rect(4, 0, 4, 4), none}, {rect(0, 0, 4, 4), rect(0, 4, 4, 4), none}, {rect(0, 0, 4, 4), rect(4, 4, 4, 4), none}, {rect(0, 0, 4, 4), rect(3, 3, 4, 4), rect(3, 3, 1, 1)},
		{rect(0, 0, 4, 4), rect(9, 0, 4, 4), none}, {rect(0, 0, 4, 4), rect(0, -9, 4, 4), none},
		// One that has no places.
		{rect(0, 0, 4, 4), rect(1, 1, 0, 2), none}, {rect(0, 0, 4, 4), rect(1, 1, 2, 0), none}, {rect(0, 0, 4, 4), rect(3, 3, -2, 1), none}, {rect(0, 0, 4, 4), rect(3, 3, 1, -2), none}, {rect(2, 2, -2, -2), rect(2, 2, -2, -2), none}, {rect(5, 5, 0, 0), rect(5, 5, 0, 0), none},
		// Ends that would wrap round.
		{rect(math.MaxInt, 1, math.MaxInt, 1), rect(math.MaxInt-1, 0, 3, 3), rect(math.MaxInt, 1, 2, 1)}, {rect(1<<62, 0, 1<<62, 1), rect(1<<62, 0, math.MaxInt, 1), rect(1<<62, 0, 1<<62, 1)}, {rect(math.MinInt, 0, math.MaxInt, 1), rect(0, 0, math.MaxInt, 1), none}, {rect(math.MinInt, 0, 5, 1), rect(math.MaxInt, 0, 5, 1), none}, {rect(math.MinInt, 0, 5, 1), rect(math.MinInt+4, 0, 5, 1), rect(math.MinInt+4, 0, 1, 1)}, {rect(math.MinInt, 0, math.MinInt, 1), rect(-5, 0, 9, 1), none},
	} {
		if r := screen.Meet(x[0], x[1]); r != x[2] || meet(x[0], x[1]) != x[2] {
			t.Errorf("%d: Meet(%v, %v): %v", i, x[0], x[1], r)
		}
		if r := screen.Meet(x[1], x[0]); r != x[2] {
			t.Errorf("%d: Meet(%v, %v): %v", i, x[1], x[0], r)
		}
	}
}

func TestMeetByTheRule(t *testing.T) {
	t.Parallel()
	for _, a := range edges {
		for _, n := range edges {
			for _, b := range edges {
				for _, m := range edges {
					x, y := rect(a, 0, n, 3), rect(b, 1, m, 1)
					if r := screen.Meet(x, y); r != meet(x, y) {
						t.Fatalf("Meet(%v, %v): %v, want %v", x, y, r, meet(x, y))
					}
					x, y = rect(-1, a, 2, n), rect(-2, b, 2, m)
					if r := screen.Meet(x, y); r != meet(x, y) {
						t.Fatalf("Meet(%v, %v): %v, want %v", x, y, r, meet(x, y))
					}
				}
			}
		}
	}
}

// holds is whether a place is in a rectangle.
func holds(r api.Rect, x, y int) bool {
	return x >= r.X && x < r.X+r.W && y >= r.Y && y < r.Y+r.H
}

func TestMeetIsWhatBothHave(t *testing.T) {
	t.Parallel()
	pick := chance(1)
	came := 0
	for range 50000 {
		a := rect(pick(9)-4, pick(9)-4, pick(7)-1, pick(7)-1)
		b := rect(pick(9)-4, pick(9)-4, pick(7)-1, pick(7)-1)
		r, n := screen.Meet(a, b), 0
		for y := -5; y < 12; y++ {
			for x := -5; x < 12; x++ {
				both := holds(a, x, y) && holds(b, x, y)
				if both != holds(r, x, y) {
					t.Fatalf("Meet(%v, %v): %v, at %d, %d", a, b, r, x, y)
				}
				if both {
					n++
				}
			}
		}
		if n == 0 && r != (api.Rect{}) {
			t.Fatalf("Meet(%v, %v): %v", a, b, r)
		}
		if n > 0 {
			came++
		}
	}
	if came < 2000 {
		t.Errorf("%d had places in common", came)
	}
}

// place is a place of a model.
type place struct{ x, y int }

// model is a screen by the chapter's words: the colours that are not black stand in a map.
type model struct {
	w, h    int
	colours map[place]int
}

func (m *model) set(x, y, colour int) {
	if colour == 0 {
		delete(m.colours, place{x, y})
		return
	}
	m.colours[place{x, y}] = colour
}

func isColour(n int) bool { return n >= 0 && n <= white }

func (m *model) fill(r api.Rect, colour int) api.Errno {
	if !inside(r, m.w, m.h) {
		return api.ErrRect
	}
	if !isColour(colour) {
		return api.ErrArg
	}
	for x := r.X; x < r.X+r.W; x++ {
		for y := r.Y; y < r.Y+r.H; y++ {
			m.set(x, y, colour)
		}
	}
	return api.OK
}

func (m *model) blit(r api.Rect, pix []int) api.Errno {
	if !inside(r, m.w, m.h) {
		return api.ErrRect
	}
	if len(pix) != r.W*r.H {
		return api.ErrArg
	}
	for _, c := range pix {
		if !isColour(c) {
			return api.ErrArg
		}
	}
	for i, c := range pix {
		m.set(r.X+i%r.W, r.Y+i/r.W, c)
	}
	return api.OK
}

func (m *model) move(from, to api.Rect) api.Errno {
	if !inside(from, m.w, m.h) || !inside(to, m.w, m.h) {
		return api.ErrRect
	}
	if from.W != to.W || from.H != to.H {
		return api.ErrArg
	}
	after := &model{m.w, m.h, map[place]int{}}
	for y := range m.h {
		for x := range m.w {
			c := m.colours[place{x, y}]
			if holds(to, x, y) {
				c = m.colours[place{x - to.X + from.X, y - to.Y + from.Y}]
			}
			after.set(x, y, c)
		}
	}
	*m = *after
	return api.OK
}

func (m *model) resize(w, h int) api.Errno {
	if w < 1 || w > 4096 || h < 1 || h > 4096 {
		return api.ErrArg
	}
	for p := range m.colours {
		if p.x >= w || p.y >= h {
			delete(m.colours, p)
		}
	}
	m.w, m.h = w, h
	return api.OK
}

func (m *model) part(r api.Rect) []int {
	var l []int
	for y := r.Y; y < r.Y+r.H; y++ {
		for x := r.X; x < r.X+r.W; x++ {
			l = append(l, m.colours[place{x, y}])
		}
	}
	return l
}

// within are all rectangles that are inside a size.
func within(w, h int) []api.Rect {
	var l []api.Rect
	for x := range w + 1 {
		for y := range h + 1 {
			for width := range w - x + 1 {
				for height := range h - y + 1 {
					l = append(l, rect(x, y, width, height))
				}
			}
		}
	}
	return l
}

// outside are rectangles that are not inside a size.
func outside(w, h int) []api.Rect {
	l := []api.Rect{
		rect(-1, 0, 1, 1), rect(0, -1, 1, 1), rect(1, 0, -1, 1), rect(0, 1, 1, -1), rect(-1, -1, 0, 0), rect(0, 0, -1, -1),
		rect(w, 0, 1, 1), rect(0, h, 1, 1), rect(w+1, 0, 0, 0), rect(0, h+1, 0, 0), rect(w, h, 1, 1), rect(0, 0, w+1, h), rect(0, 0, w, h+1), rect(1, 0, w, h), rect(0, 1, w, h),
		rect(0, 0, w*h, 1), rect(0, 0, 1, w*h+1), rect(1<<62, 0, 1<<62, 1), rect(0, 1<<62, 1, 1<<62), rect(1, 0, math.MaxInt, 1), rect(0, 1, 1, math.MaxInt), rect(math.MaxInt, math.MaxInt, math.MaxInt, math.MaxInt), rect(math.MinInt, math.MinInt, math.MinInt, math.MinInt), rect(0, 0, 1<<32, 1<<32),
	}
	return slices.DeleteFunc(l, func(r api.Rect) bool { return inside(r, w, h) })
}

// check holds all that a screen tells against its model.
func check(t *testing.T, s *screen.Screen, m *model) {
	t.Helper()
	if w, h := s.Size(); w != m.w || h != m.h {
		t.Fatalf("%d to %d, want %d to %d", w, h, m.w, m.h)
	}
	for y := -2; y < m.h+2; y++ {
		for x := -2; x < m.w+2; x++ {
			if c := s.At(x, y); c != m.colours[place{x, y}] {
				t.Fatalf("at %d, %d: %06x, want %06x", x, y, c, m.colours[place{x, y}])
			}
		}
	}
	all := m.part(rect(0, 0, m.w, m.h))
	if i := s.Image(); i.W != m.w || i.H != m.h || !slices.Equal(i.Pix, all) {
		t.Fatalf("%v, want %v", i, all)
	}
	if l, e := s.Part(rect(0, 0, m.w, m.h)); e != api.OK || !slices.Equal(l, all) {
		t.Fatalf("%v, %v, want %v", l, e, all)
	}
}

// checkParts holds all parts of a screen against its model.
func checkParts(t *testing.T, s *screen.Screen, m *model) {
	t.Helper()
	for _, r := range within(m.w, m.h) {
		if l, e := s.Part(r); e != api.OK || !slices.Equal(l, m.part(r)) {
			t.Fatalf("Part(%v): %v, %v, want %v", r, l, e, m.part(r))
		}
	}
	for _, r := range outside(m.w, m.h) {
		if l, e := s.Part(r); e != api.ErrRect || len(l) != 0 {
			t.Fatalf("Part(%v): %v, %v", r, l, e)
		}
	}
}

// pair is a screen and its model.
func pair(t *testing.T, w, h int) (*screen.Screen, *model) {
	t.Helper()
	m := &model{w, h, map[place]int{}}
	for i, c := range counted(w * h) {
		m.set(i%w, i/w, c)
	}
	return painted(t, w, h), m
}

func TestExample(t *testing.T) {
	s := fresh(t, 3, 1)
	if e := s.Fill(rect(1, 0, 2, 1), 5); e != api.OK {
		t.Error(e)
	}
	if e := s.Move(rect(1, 0, 2, 1), rect(0, 0, 2, 1)); e != api.OK {
		t.Error(e)
	}
	if m := s.Image(); m.W != 3 || m.H != 1 || !slices.Equal(m.Pix, []int{5, 5, 5}) {
		t.Error(m)
	}
}

func TestNewOfAllEdges(t *testing.T) {
	isSide := func(n int) bool { return n >= 1 && n <= 4096 }
	for _, n := range edges {
		for _, x := range [][2]int{{n, 1}, {1, n}, {n, 3}, {2, n}, {n, -n}, {n, 0}, {0, n}, {n, 4097}, {4097, n}} {
			s, e := screen.New(x[0], x[1])
			if !isSide(x[0]) || !isSide(x[1]) {
				if s != nil || e != api.ErrArg {
					t.Errorf("New(%v): %v, %v", x, s, e)
				}
				continue
			}
			if s == nil || e != api.OK {
				t.Fatalf("New(%v): %v, %v", x, s, e)
			}
			if w, h := s.Size(); w != x[0] || h != x[1] {
				t.Errorf("New(%v): %d to %d", x, w, h)
			}
			if m := s.Image(); m.W != x[0] || m.H != x[1] || !slices.Equal(m.Pix, make([]int, x[0]*x[1])) {
				t.Errorf("New(%v) is not black", x)
			}
		}
	}
}

func TestAtOfAllEdges(t *testing.T) {
	s, m := pair(t, 5, 4)
	for _, x := range edges {
		for _, y := range edges {
			if c := s.At(x, y); c != m.colours[place{x, y}] {
				t.Errorf("At(%d, %d): %d", x, y, c)
			}
		}
	}
}

func TestFillOfAllRectangles(t *testing.T) {
	t.Parallel()
	for _, r := range within(5, 4) {
		s, m := pair(t, 5, 4)
		if e := s.Fill(r, 0xabcdef); e != api.OK || m.fill(r, 0xabcdef) != e {
			t.Fatalf("Fill(%v): %v", r, e)
		}
		check(t, s, m)
	}
}

func TestFillOfAllColours(t *testing.T) {
	s, m := pair(t, 3, 2)
	for _, c := range append(edges, 0x800000, 0x00ff00, -0xffffff, 1<<40+5) {
		for _, r := range []api.Rect{rect(1, 0, 2, 1), rect(1, 1, 0, 1), rect(3, 2, 0, 0)} {
			if e := s.Fill(r, c); e != m.fill(r, c) || (e == api.OK) != isColour(c) {
				t.Errorf("Fill(%v, %d): %v", r, c, e)
			}
			check(t, s, m)
		}
	}
	if s.At(1, 0) != 0x00ff00 {
		t.Errorf("%06x was drawn at last", s.At(1, 0))
	}
}

func TestFillOutsideChangesNothing(t *testing.T) {
	s, m := pair(t, 5, 4)
	for _, r := range outside(5, 4) {
		// ErrRect comes ahead of a colour that can't be.
		for _, c := range []int{7, -1, 1 << 24} {
			if e := s.Fill(r, c); e != api.ErrRect {
				t.Errorf("Fill(%v, %d): %v", r, c, e)
			}
		}
	}
	check(t, s, m)
}

func TestBlitOfAllRectangles(t *testing.T) {
	t.Parallel()
	for _, r := range within(5, 4) {
		s, m := pair(t, 5, 4)
		pix := counted(r.W * r.H)
		for i := range pix {
			pix[i] *= 0x10203
		}
		kept := slices.Clone(pix)
		if e := s.Blit(r, pix); e != api.OK || m.blit(r, pix) != e {
			t.Fatalf("Blit(%v): %v", r, e)
		}
		check(t, s, m)
		if !slices.Equal(pix, kept) {
			t.Fatalf("Blit(%v) changed what it was handed", r)
		}
	}
}

func TestBlitOfWrongColours(t *testing.T) {
	s, m := pair(t, 5, 4)
	r := rect(1, 1, 3, 2)
	for n := range 21 {
		if n != 6 {
			if e := s.Blit(r, make([]int, n)); e != api.ErrArg {
				t.Errorf("%d colours: %v", n, e)
			}
		}
	}
	for _, c := range edges {
		if isColour(c) {
			continue
		}
		for i := range 6 {
			pix := []int{9, 9, 9, 9, 9, 9}
			pix[i] = c
			if e := s.Blit(r, pix); e != api.ErrArg {
				t.Errorf("%v: %v", pix, e)
			}
		}
	}
	for _, r := range []api.Rect{rect(0, 0, 0, 0), rect(5, 4, 0, 0), rect(1, 1, 0, 3), rect(1, 1, 3, 0)} {
		if e := s.Blit(r, []int{9}); e != api.ErrArg {
			t.Errorf("Blit(%v): %v", r, e)
		}
		if e := s.Blit(r, nil); e != api.OK {
			t.Errorf("Blit(%v): %v", r, e)
		}
	}
	check(t, s, m)
	pix := []int{0, white, 1, white - 1, 0, 0}
	if e := s.Blit(r, pix); e != api.OK || m.blit(r, pix) != e {
		t.Error(e)
	}
	check(t, s, m)
}

func TestBlitOutsideChangesNothing(t *testing.T) {
	s, m := pair(t, 5, 4)
	for _, r := range outside(5, 4) {
		// ErrRect comes ahead of colours that are too few, or can't be.
		for _, pix := range [][]int{nil, {1}, {-1}, {1 << 24}, counted(20)} {
			if e := s.Blit(r, pix); e != api.ErrRect {
				t.Errorf("Blit(%v, %v): %v", r, pix, e)
			}
		}
	}
	check(t, s, m)
}

func TestMoveOfAllPairs(t *testing.T) {
	t.Parallel()
	all := within(4, 3)
	came := 0
	for _, from := range all {
		for _, to := range all {
			s, m := pair(t, 4, 3)
			e := s.Move(from, to)
			if e != m.move(from, to) {
				t.Fatalf("Move(%v, %v): %v", from, to, e)
			}
			if e == api.OK && from != to && meet(from, to) != (api.Rect{}) {
				came++
			}
			check(t, s, m)
		}
	}
	if came < 50 {
		t.Errorf("%d had places in common", came)
	}
}

func TestMoveEveryWayOverItself(t *testing.T) {
	t.Parallel()
	from := rect(3, 3, 5, 4)
	for dx := -3; dx <= 3; dx++ {
		for dy := -3; dy <= 3; dy++ {
			s, m := pair(t, 11, 10)
			to := rect(3+dx, 3+dy, 5, 4)
			if e := s.Move(from, to); e != api.OK || m.move(from, to) != e {
				t.Fatalf("Move(%v, %v): %v", from, to, e)
			}
			check(t, s, m)
		}
	}
}

func TestMoveOfWrongRectangles(t *testing.T) {
	s, m := pair(t, 5, 4)
	good := rect(1, 1, 2, 2)
	for _, r := range outside(5, 4) {
		// ErrRect comes ahead of sizes that are not the same.
		if e := s.Move(r, good); e != api.ErrRect {
			t.Errorf("Move(%v, %v): %v", r, good, e)
		}
		if e := s.Move(good, r); e != api.ErrRect {
			t.Errorf("Move(%v, %v): %v", good, r, e)
		}
		if e := s.Move(r, r); e != api.ErrRect {
			t.Errorf("Move(%v, %v): %v", r, r, e)
		}
	}
	for _, r := range []api.Rect{rect(1, 1, 2, 1), rect(1, 1, 1, 2), rect(0, 0, 3, 2), rect(0, 0, 2, 3), rect(0, 0, 4, 1), rect(0, 0, 0, 0), rect(0, 0, 2, 0), rect(0, 0, 0, 2)} {
		if e := s.Move(good, r); e != api.ErrArg {
			t.Errorf("Move(%v, %v): %v", good, r, e)
		}
		if e := s.Move(r, good); e != api.ErrArg {
			t.Errorf("Move(%v, %v): %v", r, good, e)
		}
	}
	// As many places, but in another form.
	if e := s.Move(rect(0, 0, 4, 2), rect(0, 0, 2, 4)); e != api.ErrArg {
		t.Error(e)
	}
	if e := s.Move(rect(0, 0, 0, 2), rect(0, 0, 2, 0)); e != api.ErrArg {
		t.Error(e)
	}
	check(t, s, m)
}

func TestResizeOfAllSizes(t *testing.T) {
	t.Parallel()
	for w := range 7 {
		for h := range 7 {
			for again := range 49 {
				s, m := pair(t, 4, 3)
				for _, x := range [][2]int{{w, h}, {again % 7, again / 7}, {6, 6}} {
					if e := s.Resize(x[0], x[1]); e != m.resize(x[0], x[1]) {
						t.Fatalf("Resize(%v): %v", x, e)
					}
					check(t, s, m)
				}
			}
		}
	}
}

func TestResizeOfAllEdges(t *testing.T) {
	for _, n := range edges {
		for _, x := range [][2]int{{n, 2}, {3, n}, {n, 0}, {-1, n}, {4097, n}, {n, 4097}} {
			s, m := pair(t, 3, 2)
			if e := s.Resize(x[0], x[1]); e != m.resize(x[0], x[1]) {
				t.Fatalf("Resize(%v): %v", x, e)
			}
			check(t, s, m)
		}
	}
}

func TestResizeForgetsWhatIsNotWithin(t *testing.T) {
	s := painted(t, 4, 3)
	if e := s.Resize(2, 1); e != api.OK {
		t.Error(e)
	}
	if e := s.Fill(rect(2, 0, 1, 1), 9); e != api.ErrRect {
		t.Error(e)
	}
	if e := s.Resize(4, 3); e != api.OK {
		t.Error(e)
	}
	if l, e := s.Part(rect(0, 0, 4, 3)); e != api.OK || !slices.Equal(l, []int{1, 2, 0, 0, 0, 0, 0, 0, 0, 0, 0, 0}) {
		t.Error(l, e)
	}
}

func TestPartOfAllRectangles(t *testing.T) {
	t.Parallel()
	s, m := pair(t, 6, 5)
	checkParts(t, s, m)
	check(t, s, m)
}

func TestNothingIsShared(t *testing.T) {
	s, m := pair(t, 4, 3)
	spoil := func(l []int) {
		for i := range l {
			l[i] = -5
		}
		// What stands behind it, if there is something, too.
		for i := range l[:cap(l)] {
			l[:cap(l)][i] = -6
		}
	}
	pix := append(make([]int, 0, 99), 7, 8, 9, 10)
	if e := s.Blit(rect(1, 1, 2, 2), pix); e != api.OK || m.blit(rect(1, 1, 2, 2), pix) != e {
		t.Error(e)
	}
	whole := counted(12)
	if e := s.Blit(rect(0, 0, 4, 3), whole); e != api.OK || m.blit(rect(0, 0, 4, 3), whole) != e {
		t.Error(e)
	}
	spoil(pix)
	spoil(whole)
	check(t, s, m)
	part, _ := s.Part(rect(0, 1, 4, 1))
	all, _ := s.Part(rect(0, 0, 4, 3))
	none, _ := s.Part(rect(1, 1, 0, 0))
	spoil(part)
	spoil(all)
	spoil(none)
	spoil(s.Image().Pix)
	check(t, s, m)
	before, image := s.Image(), s.Image()
	part, _ = s.Part(rect(0, 0, 4, 3))
	if e := s.Fill(rect(0, 0, 4, 3), 77); e != api.OK {
		t.Error(e)
	}
	if e := s.Resize(4, 4); e != api.OK {
		t.Error(e)
	}
	if !slices.Equal(before.Pix, counted(12)) || !slices.Equal(part, counted(12)) {
		t.Error("what was told was drawn on")
	}
	before.Pix[0] = 99
	if image.Pix[0] != 1 {
		t.Error("two answers share their colours")
	}
}

func TestScreensKnowNothingOfEachOther(t *testing.T) {
	a, m := pair(t, 3, 2)
	b, n := pair(t, 3, 2)
	if e := a.Fill(rect(0, 0, 2, 2), 5); e != api.OK || m.fill(rect(0, 0, 2, 2), 5) != e {
		t.Error(e)
	}
	if e := b.Resize(2, 3); e != api.OK || n.resize(2, 3) != e {
		t.Error(e)
	}
	check(t, a, m)
	check(t, b, n)
}

// checkEmpty holds a screen of no places against what is said of it: a nil one, or a zero one.
func checkEmpty(t *testing.T, s *screen.Screen) {
	t.Helper()
	if w, h := s.Size(); w != 0 || h != 0 || s.At(0, 0) != 0 || s.At(-1, -1) != 0 || s.At(math.MaxInt, math.MinInt) != 0 {
		t.Error(w, h)
	}
	if m := s.Image(); m.W != 0 || m.H != 0 || len(m.Pix) != 0 {
		t.Error(m)
	}
	for _, r := range outside(0, 0) {
		if e := s.Fill(r, 5); e != api.ErrRect {
			t.Errorf("Fill(%v): %v", r, e)
		}
		if e := s.Blit(r, []int{5}); e != api.ErrRect {
			t.Errorf("Blit(%v): %v", r, e)
		}
		if e := s.Move(r, api.Rect{}); e != api.ErrRect {
			t.Errorf("Move(%v): %v", r, e)
		}
		if e := s.Move(api.Rect{}, r); e != api.ErrRect {
			t.Errorf("Move to %v: %v", r, e)
		}
		if l, e := s.Part(r); e != api.ErrRect || len(l) != 0 {
			t.Errorf("Part(%v): %v, %v", r, l, e)
		}
	}
	var none api.Rect
	if l, e := s.Part(none); e != api.OK || len(l) != 0 {
		t.Error(l, e)
	}
	if s.Fill(none, 5) != api.OK || s.Fill(none, -1) != api.ErrArg || s.Blit(none, nil) != api.OK || s.Blit(none, []int{5}) != api.ErrArg || s.Move(none, none) != api.OK {
		t.Error("a rectangle of no places")
	}
	for _, x := range [][2]int{{0, 0}, {0, 1}, {1, 0}, {-1, 1}, {1, 4097}, {math.MaxInt, math.MinInt}} {
		if e := s.Resize(x[0], x[1]); e != api.ErrArg {
			t.Errorf("Resize(%v): %v", x, e)
		}
	}
}

func TestZeroScreen(t *testing.T) {
	var s screen.Screen
	checkEmpty(t, &s)
	if e := s.Resize(3, 2); e != api.OK {
		t.Error(e)
	}
	check(t, &s, &model{3, 2, map[place]int{}})
	if e := s.Fill(rect(1, 0, 2, 1), 5); e != api.OK {
		t.Error(e)
	}
	checkEmpty(t, new(screen.Screen))
}

func TestNilScreen(t *testing.T) {
	var s *screen.Screen
	checkEmpty(t, s)
	if e := s.Resize(3, 2); e != api.ErrArg {
		t.Error(e)
	}
	checkEmpty(t, s)
}

func TestGreatestScreen(t *testing.T) {
	t.Parallel()
	s := fresh(t, 4096, 4096)
	last := rect(4095, 4095, 1, 1)
	if e := s.Fill(last, white); e != api.OK {
		t.Error(e)
	}
	if e := s.Fill(rect(0, 0, 4096, 1), 3); e != api.OK {
		t.Error(e)
	}
	if e := s.Move(rect(0, 0, 4095, 4095), rect(1, 1, 4095, 4095)); e != api.OK {
		t.Error(e)
	}
	if s.At(4095, 4095) != 0 || s.At(4095, 1) != 3 || s.At(0, 1) != 0 || s.At(4095, 0) != 3 || s.At(4096, 0) != 0 || s.At(4095, 4096) != 0 {
		t.Error("what was moved stands elsewhere")
	}
	if e := s.Fill(last, white); e != api.OK {
		t.Error(e)
	}
	if l, e := s.Part(rect(4094, 4095, 2, 1)); e != api.OK || !slices.Equal(l, []int{0, white}) {
		t.Error(l, e)
	}
	m := s.Image()
	if m.W != 4096 || m.H != 4096 || len(m.Pix) != 1<<24 || m.Pix[1<<24-1] != white || m.Pix[4095] != 3 || m.Pix[4096] != 0 || m.Pix[4097] != 3 {
		t.Error("Image")
	}
	if e := s.Fill(rect(0, 0, 4096, 4097), 5); e != api.ErrRect {
		t.Error(e)
	}
	if e := s.Resize(1, 4096); e != api.OK {
		t.Error(e)
	}
	if l, e := s.Part(rect(0, 0, 1, 4096)); e != api.OK || len(l) != 4096 || l[0] != 3 || slices.Max(l[1:]) != 0 {
		t.Error(e)
	}
}

// step does one thing by chance to a screen and its model, and holds the answers against each other.
func step(t *testing.T, s *screen.Screen, m *model, pick func(n int) int) api.Errno {
	t.Helper()
	some := func() api.Rect { return rect(pick(m.w+1), pick(m.h+1), pick(m.w+1), pick(m.h+1)) }
	a, b := some(), some()
	if pick(3) > 0 {
		a.W, a.H = min(a.W, m.w-a.X), min(a.H, m.h-a.Y)
		b = rect(pick(m.w-a.W+1), pick(m.h-a.H+1), a.W, a.H)
	}
	if pick(20) == 0 {
		a.X = edges[pick(len(edges))]
	}
	var got, want api.Errno
	switch pick(8) {
	case 0:
		got, want = s.Resize(a.W+1, a.H+1), m.resize(a.W+1, a.H+1)
	case 1, 2:
		c := pick(white+2) - pick(2)
		got, want = s.Fill(a, c), m.fill(a, c)
	case 3, 4:
		var pix []int
		for range a.W*a.H + max(0, pick(20)-18) {
			pix = append(pix, pick(white+1))
		}
		got, want = s.Blit(a, pix), m.blit(a, pix)
	default:
		got, want = s.Move(a, b), m.move(a, b)
	}
	if got != want {
		t.Fatalf("%v, %v of %d to %d: %v, want %v", a, b, m.w, m.h, got, want)
	}
	return got
}

func TestLongRuns(t *testing.T) {
	t.Parallel()
	came := map[api.Errno]int{}
	for seed := range 40 {
		pick := chance(uint64(seed))
		s, m := pair(t, 1+pick(12), 1+pick(12))
		for range 200 {
			came[step(t, s, m, pick)]++
			check(t, s, m)
		}
		checkParts(t, s, m)
	}
	if came[api.OK] < 2000 || came[api.ErrRect] < 100 || came[api.ErrArg] < 20 {
		t.Error(came)
	}
}

func TestManyAtATime(t *testing.T) {
	faults := make([]int, 8)
	one := painted(t, 9, 7)
	var all sync.WaitGroup
	for i := range faults {
		all.Go(func() {
			own, _ := screen.New(9, 7)
			for y := range 7 {
				for x := range 9 {
					// All of them look at one, and each draws on its own.
					c := one.At(x, y)
					l, e := one.Part(rect(x, y, 1, 1))
					if e != api.OK || !slices.Equal(l, []int{c}) || own.Blit(rect(x, y, 1, 1), l) != api.OK {
						faults[i]++
					}
				}
			}
			if !slices.Equal(own.Image().Pix, one.Image().Pix) {
				faults[i]++
			}
		})
	}
	all.Wait()
	if !slices.Equal(faults, make([]int, 8)) {
		t.Error(faults)
	}
}

func BenchmarkFill(b *testing.B) {
	s := fresh(b, 1024, 768)
	for b.Loop() {
		s.Fill(rect(12, 34, 900, 600), 0x123456)
	}
}

func BenchmarkBlit(b *testing.B) {
	s, pix := fresh(b, 1024, 768), make([]int, 900*600)
	for b.Loop() {
		s.Blit(rect(12, 34, 900, 600), pix)
	}
}

func BenchmarkMove(b *testing.B) {
	s := fresh(b, 1024, 768)
	for b.Loop() {
		s.Move(rect(0, 0, 1024, 752), rect(0, 16, 1024, 752))
	}
}

func BenchmarkPart(b *testing.B) {
	s := fresh(b, 1024, 768)
	for b.Loop() {
		s.Part(rect(12, 34, 64, 64))
	}
}

func FuzzAll(f *testing.F) {
	f.Add(uint64(1), 3, 2, 0, 0, 2, 2, 5)
	for i, n := range edges {
		f.Add(uint64(i), 1+i, 30-i, n, 1, n, n, n)
	}
	f.Fuzz(func(t *testing.T, seed uint64, w, h, x, y, width, height, colour int) {
		r := rect(x, y, width, height)
		if screen.Inside(r, w, h) != inside(r, w, h) {
			t.Fatalf("Inside(%v, %d, %d): %v", r, w, h, screen.Inside(r, w, h))
		}
		if other := rect(w, h, colour, height); screen.Meet(r, other) != meet(r, other) || screen.Meet(other, r) != meet(r, other) {
			t.Fatalf("Meet(%v, %v): %v, want %v", r, other, screen.Meet(r, other), meet(r, other))
		}
		s, m := pair(t, 1+int(uint(w)%20), 1+int(uint(h)%20))
		if e := s.Fill(r, colour); e != m.fill(r, colour) {
			t.Fatalf("Fill(%v, %d): %v", r, colour, e)
		}
		if l, e := s.Part(r); e == api.OK && !slices.Equal(l, m.part(r)) || (e == api.OK) != inside(r, m.w, m.h) {
			t.Fatalf("Part(%v): %v, %v", r, l, e)
		}
		if c := s.At(x, y); c != m.colours[place{x, y}] {
			t.Fatalf("At(%d, %d): %d", x, y, c)
		}
		pick := chance(seed)
		for range 20 {
			step(t, s, m, pick)
			check(t, s, m)
		}
	})
}

func TestSourceStandsOnThoseBelowAlone(t *testing.T) {
	src, err := os.ReadFile("screen.go")
	if err != nil {
		t.Fatal(err)
	}
	f, err := parser.ParseFile(token.NewFileSet(), "screen.go", src, 0)
	if err != nil {
		t.Fatal(err)
	}
	for _, i := range f.Imports {
		if !slices.Contains([]string{`"iter"`, `"slices"`, `"mirador/api"`}, i.Path.Value) {
			t.Errorf("import of %s", i.Path.Value)
		}
	}
	copies := 0
	ast.Inspect(f, func(n ast.Node) bool {
		if c, ok := n.(*ast.CallExpr); ok {
			if name, ok := c.Fun.(*ast.Ident); ok && name.Name == "copy" {
				copies++
			}
		}
		return true
	})
	if copies == 0 {
		t.Error("nothing is drawn by copy")
	}
	if tidy, err := format.Source(src); err != nil || string(tidy) != string(src) {
		t.Errorf("not gofmt's layout: %v", err)
	}
}
