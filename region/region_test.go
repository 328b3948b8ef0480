package region_test

import (
	"go/ast"
	"go/format"
	"go/parser"
	"go/token"
	"math"
	"math/big"
	"os"
	"slices"
	"sync"
	"testing"

	"mirador/api"
	"mirador/region"
)

const far = 1048576

// edges are numbers at and around the edges of places, of moves and of ints.
var edges = []int{
	math.MinInt, math.MinInt + 1, math.MinInt / 2, -1 << 32, -1 << 31, -2*far - 1, -2 * far, -2*far + 1, -far - 1, -far, -far + 1, -3, -1,
	0, 1, 2, 3, far - 1, far, far + 1, 2*far - 1, 2 * far, 2*far + 1, 1<<31 - 1, 1 << 32, 1 << 62, math.MaxInt - far, math.MaxInt - 1, math.MaxInt,
}

// chance answers numbers from 0 to n - 1, the same ones for every seed.
func chance(seed uint64) func(n int) int {
	return func(n int) int {
		seed = seed*6364136223846793005 + 1442695040888963407
		return int(seed>>33) % n
	}
}

func rect(x, y, w, h int) api.Rect { return api.Rect{X: x, Y: y, W: w, H: h} }

// counts is the rule for rectangles that count, in numbers that have no bound.
func counts(r api.Rect) bool {
	near := func(at, length int) bool {
		end := new(big.Int).Add(big.NewInt(int64(at)), big.NewInt(int64(length)))
		least, most := big.NewInt(-far), big.NewInt(far)
		return at >= -far && at <= far && end.Cmp(least) >= 0 && end.Cmp(most) <= 0
	}
	return r.W >= 1 && r.H >= 1 && near(r.X, r.W) && near(r.Y, r.H)
}

// has is the rule for a place of rectangles.
func has(l []api.Rect, x, y int) bool {
	for _, r := range l {
		if counts(r) && x >= r.X && x < r.X+r.W && y >= r.Y && y < r.Y+r.H {
			return true
		}
	}
	return false
}

// places are numbers of which no set of those rectangles can differ without differing at one: where something begins or ends, and right ahead of that.
func places(lists ...[]api.Rect) (xs, ys []int) {
	add := func(l []int, at, length int) []int { return append(l, at-1, at, at+length-1, at+length) }
	for _, l := range lists {
		for _, r := range l {
			if counts(r) {
				xs, ys = add(xs, r.X, r.W), add(ys, r.Y, r.H)
			}
		}
	}
	slices.Sort(xs)
	slices.Sort(ys)
	return slices.Compact(xs), slices.Compact(ys)
}

// fault is what is wrong with a region as such, by the chapter's words one by one; or nothing.
func fault(l []api.Rect) string {
	for i, r := range l {
		if !counts(r) {
			return "one does not count"
		}
		for _, other := range l[:i] {
			if r.X < other.X+other.W && other.X < r.X+r.W && r.Y < other.Y+other.H && other.Y < r.Y+r.H {
				return "a place in common"
			}
			if r.Y < other.Y || r.Y == other.Y && r.X <= other.X {
				return "the order"
			}
			if r.Y == other.Y && r.H != other.H {
				return "two heights in a band"
			}
			if r.Y == other.Y && r.X == other.X+other.W {
				return "two touch side by side"
			}
			if r.Y != other.Y && r.Y < other.Y+other.H {
				return "a band begins within another one"
			}
		}
	}
	var last, band []api.Rect
	for len(l) > 0 {
		n := 1
		for n < len(l) && l[n].Y == l[0].Y {
			n++
		}
		last, band, l = band, l[:n], l[n:]
		same := slices.EqualFunc(last, band, func(a, b api.Rect) bool {
			return a.X == b.X && a.W == b.W && a.Y+a.H == b.Y
		})
		if same {
			return "two bands are the same"
		}
	}
	return ""
}

// check holds a region against the set that it must be: all that differs shows at borders of the region or of those that the set was made of.
func check(t testing.TB, what string, got []api.Rect, want func(x, y int) bool, of ...[]api.Rect) {
	t.Helper()
	if s := fault(got); s != "" {
		t.Fatalf("%s of %v: %v: %s", what, of, got, s)
	}
	xs, ys := places(append(of, got)...)
	for _, y := range ys {
		for _, x := range xs {
			if in := has(got, x, y); in != want(x, y) {
				t.Fatalf("%s of %v: %v: at %d, %d: %v", what, of, got, x, y, in)
			}
		}
	}
}

// checkTwo holds Union, Minus and Both, of two lists both ways round, and Make of all of them, against the sets.
func checkTwo(t testing.TB, a, b []api.Rect) {
	t.Helper()
	inA := func(x, y int) bool { return has(a, x, y) }
	inB := func(x, y int) bool { return has(b, x, y) }
	one := func(x, y int) bool { return inA(x, y) || inB(x, y) }
	both := func(x, y int) bool { return inA(x, y) && inB(x, y) }
	check(t, "Make", region.Make(a...), inA, a)
	check(t, "Make", region.Make(slices.Concat(a, b)...), one, a, b)
	check(t, "Union", region.Union(a, b), one, a, b)
	check(t, "Union", region.Union(b, a), one, b, a)
	check(t, "Both", region.Both(a, b), both, a, b)
	check(t, "Both", region.Both(b, a), both, b, a)
	check(t, "Minus", region.Minus(a, b), func(x, y int) bool { return inA(x, y) && !inB(x, y) }, a, b)
	check(t, "Minus", region.Minus(b, a), func(x, y int) bool { return inB(x, y) && !inA(x, y) }, b, a)
}

// checkShift holds Shift against its rule: each rectangle of the region is moved, or left out.
func checkShift(t testing.TB, a []api.Rect, dx, dy int) {
	t.Helper()
	var l []api.Rect
	if dx >= -2097152 && dx <= 2097152 && dy >= -2097152 && dy <= 2097152 {
		for _, r := range region.Make(a...) {
			l = append(l, rect(r.X+dx, r.Y+dy, r.W, r.H))
		}
	}
	check(t, "Shift", region.Shift(a, dx, dy), func(x, y int) bool { return has(l, x, y) }, l)
}

// checkTold holds Has, Area and Bounds against the set, place by place of a window that has all of it.
func checkTold(t testing.TB, l []api.Rect, window api.Rect) {
	t.Helper()
	n, left, top, right, bottom := 0, math.MaxInt, math.MaxInt, math.MinInt, math.MinInt
	for y := window.Y - 1; y <= window.Y+window.H; y++ {
		for x := window.X - 1; x <= window.X+window.W; x++ {
			in := has(l, x, y)
			if region.Has(l, x, y) != in {
				t.Fatalf("Has(%v, %d, %d): %v", l, x, y, !in)
			}
			if in {
				n++
				left, top, right, bottom = min(left, x), min(top, y), max(right, x+1), max(bottom, y+1)
			}
		}
	}
	if got := region.Area(l); got != n {
		t.Fatalf("Area(%v): %d, want %d", l, got, n)
	}
	want := api.Rect{}
	if n > 0 {
		want = rect(left, top, right-left, bottom-top)
	}
	if got := region.Bounds(l); got != want {
		t.Fatalf("Bounds(%v): %v, want %v", l, got, want)
	}
}

// cells are the places of a grid that a number's bits tell, each one as a rectangle, at x, y.
func cells(bits, w, h, x, y int) []api.Rect {
	var l []api.Rect
	for i := range w * h {
		if bits>>i&1 == 1 {
			l = append(l, rect(x+i%w, y+i/w, 1, 1))
		}
	}
	return l
}

// some is rectangles by chance: n at most, of places from -2 on, some of which do not count.
func some(pick func(n int) int, n, side int) []api.Rect {
	var l []api.Rect
	for range pick(n + 1) {
		l = append(l, rect(pick(side)-2, pick(side)-2, pick(side/2), pick(side/2)))
	}
	return l
}

func TestByHand(t *testing.T) {
	one := func(x, y, w, h int) []api.Rect { return []api.Rect{rect(x, y, w, h)} }
	for i, x := range []struct{ got, want []api.Rect }{
		{region.Make(), nil},
		{region.Make(rect(3, 4, 5, 6)), one(3, 4, 5, 6)},
		{region.Make(rect(-3, -4, 5, 6), rect(-3, -4, 5, 6)), one(-3, -4, 5, 6)},
		// The chapter's examples.
		{region.Make(rect(0, 0, 2, 2), rect(2, 0, 2, 2)), one(0, 0, 4, 2)},
		{region.Minus(one(0, 0, 4, 2), one(1, 1, 1, 1)), []api.Rect{rect(0, 0, 4, 1), rect(0, 1, 1, 1), rect(2, 1, 2, 1)}},
		// They touch: at a side, above each other, at a corner; or there is room between them.
		{region.Make(rect(2, 0, 2, 2), rect(0, 0, 2, 2)), one(0, 0, 4, 2)},
		{region.Make(rect(0, 2, 2, 3), rect(0, 0, 2, 2)), one(0, 0, 2, 5)},
		{region.Make(rect(2, 2, 2, 2), rect(0, 0, 2, 2)), []api.Rect{rect(0, 0, 2, 2), rect(2, 2, 2, 2)}},
		{region.Make(rect(0, 2, 2, 2), rect(2, 0, 2, 2)), []api.Rect{rect(2, 0, 2, 2), rect(0, 2, 2, 2)}},
		{region.Make(rect(3, 0, 2, 2), rect(0, 0, 2, 2)), []api.Rect{rect(0, 0, 2, 2), rect(3, 0, 2, 2)}},
		{region.Make(rect(0, 3, 2, 2), rect(0, 0, 2, 2)), []api.Rect{rect(0, 0, 2, 2), rect(0, 3, 2, 2)}},
		// Bands are cut where another one begins or ends, though no place is in common.
		{region.Make(rect(0, 0, 1, 4), rect(5, 1, 1, 2)), []api.Rect{rect(0, 0, 1, 1), rect(0, 1, 1, 2), rect(5, 1, 1, 2), rect(0, 3, 1, 1)}},
		{region.Make(rect(0, 0, 1, 2), rect(5, 1, 1, 2)), []api.Rect{rect(0, 0, 1, 1), rect(0, 1, 1, 1), rect(5, 1, 1, 1), rect(5, 2, 1, 1)}},
		{region.Make(rect(0, 0, 1, 4), rect(1, 0, 1, 2), rect(1, 2, 1, 2)), one(0, 0, 2, 4)},
		{region.Make(rect(0, 0, 3, 1), rect(0, 1, 1, 1), rect(1, 1, 2, 1), rect(0, 2, 2, 1), rect(2, 2, 1, 1)), one(0, 0, 3, 3)},
		{region.Make(rect(0, 1, 9, 1), rect(4, 0, 1, 3)), []api.Rect{rect(4, 0, 1, 1), rect(0, 1, 9, 1), rect(4, 2, 1, 1)}},
		{region.Make(rect(0, 0, 9, 9), rect(4, 4, 1, 1), rect(8, 8, 1, 1)), one(0, 0, 9, 9)},
		// Bands of the same X, but of another W, and the other way round.
		{region.Make(rect(0, 0, 2, 1), rect(0, 1, 3, 1)), []api.Rect{rect(0, 0, 2, 1), rect(0, 1, 3, 1)}},
		{region.Make(rect(0, 0, 2, 1), rect(1, 1, 2, 1)), []api.Rect{rect(0, 0, 2, 1), rect(1, 1, 2, 1)}},
		{region.Make(rect(0, 0, 1, 1), rect(2, 0, 1, 1), rect(0, 1, 1, 1)), []api.Rect{rect(0, 0, 1, 1), rect(2, 0, 1, 1), rect(0, 1, 1, 1)}},
		{region.Make(rect(0, 0, 1, 1), rect(0, 1, 1, 1), rect(2, 1, 1, 1)), []api.Rect{rect(0, 0, 1, 1), rect(0, 1, 1, 1), rect(2, 1, 1, 1)}},
		{region.Union(one(0, 0, 2, 2), one(1, 0, 2, 2)), one(0, 0, 3, 2)},
		{region.Union(nil, nil), nil},
		{region.Minus(one(0, 0, 4, 4), one(0, 0, 4, 4)), nil},
		{region.Minus(one(0, 0, 4, 4), nil), one(0, 0, 4, 4)},
		{region.Minus(nil, one(0, 0, 4, 4)), nil},
		{region.Minus(one(0, 0, 4, 4), one(-1, -1, 3, 9)), one(2, 0, 2, 4)},
		{region.Minus(one(0, 0, 4, 4), one(-9, 1, 99, 2)), []api.Rect{rect(0, 0, 4, 1), rect(0, 3, 4, 1)}},
		{region.Both(one(0, 0, 4, 4), one(2, 3, 9, 9)), one(2, 3, 2, 1)},
		{region.Both(one(0, 0, 4, 4), one(4, 0, 4, 4)), nil},
		{region.Both(one(0, 0, 4, 4), nil), nil},
		{region.Shift(one(1, 2, 3, 4), -5, 7), one(-4, 9, 3, 4)},
		{region.Shift(nil, 1, 1), nil},
	} {
		if !slices.Equal(x.got, x.want) {
			t.Errorf("%d: %v, want %v", i, x.got, x.want)
		}
	}
	if region.Far != far {
		t.Error(region.Far)
	}
}

func TestCountsByTheRule(t *testing.T) {
	t.Parallel()
	other := rect(-7, -7, 2, 2)
	came := 0
	for _, at := range edges {
		for _, length := range edges {
			for _, r := range []api.Rect{rect(at, 5, length, 1), rect(5, at, 1, length), rect(at, at, length, length)} {
				l := []api.Rect{other, r}
				if !counts(r) {
					l = l[:1]
				} else {
					came++
				}
				if got := region.Make(r); !slices.Equal(got, l[1:]) {
					t.Fatalf("Make(%v): %v", r, got)
				}
				if got, want := region.Make(other, r), region.Make(l...); !slices.Equal(got, want) {
					t.Fatalf("Make(%v, %v): %v, want %v", other, r, got, want)
				}
				checkTwo(t, []api.Rect{other, rect(5, 5, 1, 1)}, []api.Rect{r})
				checkShift(t, []api.Rect{r, other}, 0, 0)
				if got, want := region.Has([]api.Rect{r}, r.X, r.Y), counts(r); got != want {
					t.Fatalf("Has(%v, %d, %d): %v", r, r.X, r.Y, got)
				}
				area, bounds := 4, other
				if counts(r) {
					area += r.W * r.H
					bounds = rect(min(r.X, -7), min(r.Y, -7), max(r.X+r.W, -5)-min(r.X, -7), max(r.Y+r.H, -5)-min(r.Y, -7))
				}
				// The other one is within, as a whole or not at all.
				if has([]api.Rect{r}, -7, -7) {
					area -= 4
				}
				if got := region.Area([]api.Rect{r, other}); got != area {
					t.Fatalf("Area(%v, %v): %d, want %d", r, other, got, area)
				}
				if got := region.Bounds([]api.Rect{r, other}); got != bounds {
					t.Fatalf("Bounds(%v, %v): %v, want %v", r, other, got, bounds)
				}
			}
		}
	}
	if came < 50 {
		t.Errorf("%d counted", came)
	}
}

func TestWhatDoesNotCountChangesNothing(t *testing.T) {
	t.Parallel()
	var no []api.Rect
	for _, at := range edges {
		for _, length := range edges {
			for _, r := range []api.Rect{rect(at, 0, length, 3), rect(0, at, 3, length)} {
				if !counts(r) {
					no = append(no, r)
				}
			}
		}
	}
	a, b := []api.Rect{rect(0, 0, 3, 2), rect(2, 1, 4, 4)}, []api.Rect{rect(1, -1, 2, 5)}
	ofA, ofB := slices.Concat(no, a, no), slices.Concat(b, no)
	for i, x := range [][2][]api.Rect{
		{region.Make(ofA...), region.Make(a...)}, {region.Make(no...), nil},
		{region.Union(ofA, ofB), region.Union(a, b)}, {region.Minus(ofA, ofB), region.Minus(a, b)}, {region.Minus(ofB, ofA), region.Minus(b, a)}, {region.Both(ofA, ofB), region.Both(a, b)},
		{region.Union(no, no), nil}, {region.Minus(a, no), region.Make(a...)}, {region.Minus(no, a), nil}, {region.Both(no, a), nil}, {region.Both(no, no), nil},
		{region.Shift(ofA, 5, -5), region.Shift(a, 5, -5)}, {region.Shift(no, 0, 0), nil}, {region.Shift(no, 1, -far), nil}, {region.Shift(no, -far, 7), nil},
	} {
		if !slices.Equal(x[0], x[1]) {
			t.Errorf("%d: %v, want %v", i, x[0], x[1])
		}
	}
	checkTold(t, ofA, rect(-1, -1, 9, 9))
	checkTold(t, no, rect(-1, -1, 9, 9))
	for _, r := range no {
		for _, x := range []int{r.X, r.X + 1, r.X + r.W - 1, r.X + r.W, 0} {
			for _, y := range []int{r.Y, r.Y + 1, r.Y + r.H - 1, r.Y + r.H, 0} {
				if region.Has([]api.Rect{r}, x, y) {
					t.Fatalf("Has(%v, %d, %d)", r, x, y)
				}
			}
		}
	}
}

func TestAllSetsOfAGrid(t *testing.T) {
	t.Parallel()
	for bits := range 1 << 12 {
		l := cells(bits, 4, 3, -1, 5)
		want := func(x, y int) bool {
			x, y = x+1, y-5
			return x >= 0 && x < 4 && y >= 0 && y < 3 && bits>>(4*y+x)&1 == 1
		}
		got := region.Make(l...)
		check(t, "Make", got, want, l)
		if again := region.Make(got...); !slices.Equal(again, got) {
			t.Fatalf("Make(%v): %v", got, again)
		}
		checkTold(t, l, rect(-1, 5, 4, 3))
		checkTold(t, got, rect(-1, 5, 4, 3))
		checkShift(t, l, -4, 2)
		slices.Reverse(l)
		if back := region.Make(l...); !slices.Equal(back, got) {
			t.Fatalf("Make(%v): %v, want %v", l, back, got)
		}
		slices.Reverse(got)
		got = append(got, l...)
		check(t, "Make", region.Make(got...), want, l)
		checkTold(t, got, rect(-1, 5, 4, 3))
	}
}

func TestAllPairsOfSetsOfAGrid(t *testing.T) {
	t.Parallel()
	var regions [][]api.Rect
	for bits := range 1 << 9 {
		l := cells(bits, 3, 3, 0, 0)
		regions = append(regions, region.Make(l...))
		check(t, "Make", regions[bits], func(x, y int) bool { return has(l, x, y) }, l)
	}
	for a, l := range regions {
		for b, m := range regions {
			if got := region.Union(l, m); !slices.Equal(got, regions[a|b]) {
				t.Fatalf("Union(%v, %v): %v", l, m, got)
			}
			if got := region.Minus(l, m); !slices.Equal(got, regions[a&^b]) {
				t.Fatalf("Minus(%v, %v): %v", l, m, got)
			}
			if got := region.Both(l, m); !slices.Equal(got, regions[a&b]) {
				t.Fatalf("Both(%v, %v): %v", l, m, got)
			}
			// The same sets have the same regions, and no others have.
			if slices.Equal(l, m) != (a == b) {
				t.Fatalf("sets %d and %d: %v and %v", a, b, l, m)
			}
		}
	}
}

func TestAllPairsOfRectangles(t *testing.T) {
	t.Parallel()
	for _, a := range []api.Rect{rect(0, 0, 2, 2), rect(1, 1, 1, 3), rect(1, 2, 3, 1)} {
		for n := range 5 * 5 * 5 * 5 {
			b := rect(n%5-1, n/5%5-1, n/25%5, n/125%5)
			checkTwo(t, []api.Rect{a}, []api.Rect{b})
			checkTold(t, []api.Rect{a, b}, rect(-1, -1, 9, 9))
			checkTold(t, []api.Rect{b}, rect(-1, -1, 9, 9))
		}
	}
}

func TestManyRectanglesByChance(t *testing.T) {
	t.Parallel()
	pick := chance(1)
	for range 500 {
		side := 4 + pick(16)
		a, b := some(pick, 9, side), some(pick, 9, side)
		checkTwo(t, a, b)
		checkTwo(t, region.Make(a...), b)
		checkTold(t, a, rect(-3, -3, 2*side, 2*side))
		checkShift(t, a, pick(9)-4, pick(9)-4)
	}
}

func TestFarRectanglesByChance(t *testing.T) {
	t.Parallel()
	pick := chance(2)
	spread := func() []api.Rect {
		var l []api.Rect
		for range pick(8) {
			// Places near one of few spots, so that borders come together.
			spot := func() int { return []int{-far, -far / 2, 0, far - 2, far}[pick(5)] + pick(5) - 2 }
			x, y := spot(), spot()
			l = append(l, rect(x, y, spot()-x, spot()-y))
		}
		return l
	}
	for range 3000 {
		a, b := spread(), spread()
		checkTwo(t, a, b)
		checkShift(t, a, edges[pick(len(edges))], pick(5)-2)
		checkShift(t, b, pick(3)*far-far+pick(5)-2, edges[pick(len(edges))])
	}
}

func TestOrderDoesNotMatter(t *testing.T) {
	t.Parallel()
	pick := chance(3)
	for range 2000 {
		l := some(pick, 12, 12)
		want := region.Make(l...)
		for i := range l {
			j := pick(i + 1)
			l[i], l[j] = l[j], l[i]
		}
		if got := region.Make(l...); !slices.Equal(got, want) {
			t.Fatalf("Make(%v): %v, want %v", l, got, want)
		}
		if got := region.Make(append(l, l...)...); !slices.Equal(got, want) {
			t.Fatalf("Make(%v) twice: %v, want %v", l, got, want)
		}
	}
}

func TestShiftOfAllEdges(t *testing.T) {
	t.Parallel()
	l := []api.Rect{rect(-far, -far, 1, 1), rect(-far, far-1, 1, 1), rect(far-1, -far, 1, 1), rect(far-1, far-1, 1, 1), rect(-far, 0, 2*far, 1), rect(0, 1, 3, 2)}
	for _, dx := range edges {
		for _, dy := range edges {
			checkShift(t, l, dx, dy)
			checkShift(t, l[5:], dx, dy)
		}
	}
	first := []api.Rect{rect(-far, -far, 1, 1)}
	last := []api.Rect{rect(far-1, far-1, 1, 1)}
	if got := region.Shift(first, 2*far-1, 2*far-1); !slices.Equal(got, last) {
		t.Error(got)
	}
	if got := region.Shift(last, 1-2*far, 1-2*far); !slices.Equal(got, first) {
		t.Error(got)
	}
}

func TestShiftLeavesOutWholeRectangles(t *testing.T) {
	for i, x := range []struct {
		l      []api.Rect
		dx, dy int
		want   []api.Rect
	}{
		// One of the region's, though it was handed in as two.
		{[]api.Rect{rect(0, 0, 1, 1), rect(1, 0, 1, 1)}, far - 1, 0, nil},
		{[]api.Rect{rect(0, 0, 1, 1), rect(0, 1, 1, 1)}, 0, far - 1, nil},
		{[]api.Rect{rect(0, 0, 1, 1), rect(2, 0, 1, 1)}, far - 1, 0, []api.Rect{rect(far-1, 0, 1, 1)}},
		{[]api.Rect{rect(0, 0, 1, 1), rect(0, 2, 1, 1)}, 0, far - 1, []api.Rect{rect(0, far-1, 1, 1)}},
		{[]api.Rect{rect(0, 0, 2, 1)}, -1, 0, []api.Rect{rect(-1, 0, 2, 1)}},
		{[]api.Rect{rect(0, 0, 2, 1)}, -far - 1, 0, nil},
		{[]api.Rect{rect(0, 0, 1, 2)}, 0, -far - 1, nil},
		{[]api.Rect{rect(0, 0, 2, 1)}, -far, -far, []api.Rect{rect(-far, -far, 2, 1)}},
		// One that was handed in as a whole, of which the region makes bands.
		{[]api.Rect{rect(0, 0, 2, 2), rect(1, 1, 2, 2)}, far - 2, 0, []api.Rect{rect(far-2, 0, 2, 1)}},
		{[]api.Rect{rect(0, 0, 1, 9), rect(2, 3, 1, 1)}, 0, far - 4, []api.Rect{rect(0, far-4, 1, 3), rect(0, far-1, 1, 1), rect(2, far-1, 1, 1)}},
		// Bands that are the same without what is left out.
		{[]api.Rect{rect(0, 0, 1, 1), rect(2, 0, 2, 1), rect(0, 1, 1, 1)}, far - 3, 0, []api.Rect{rect(far-3, 0, 1, 2)}},
		{[]api.Rect{rect(0, 0, 1, 1), rect(5, 0, 1, 1), rect(5, 1, 1, 1)}, -far - 1, 3, []api.Rect{rect(4-far, 3, 1, 2)}},
		{[]api.Rect{rect(0, 0, 1, 3), rect(5, 1, 1, 1)}, far - 5, 0, []api.Rect{rect(far-5, 0, 1, 3)}},
	} {
		if got := region.Shift(x.l, x.dx, x.dy); !slices.Equal(got, x.want) {
			t.Errorf("%d: Shift(%v, %d, %d): %v, want %v", i, x.l, x.dx, x.dy, got, x.want)
		}
		checkShift(t, x.l, x.dx, x.dy)
	}
}

func TestHasOfAllEdges(t *testing.T) {
	lists := [][]api.Rect{nil, {rect(-far, -far, 2*far, 2*far)}, {rect(-1, 0, 4, 1), rect(0, -1, 1, 4)}, {rect(-far, -far, 1, 1), rect(far-1, far-1, 1, 1)}, {rect(1<<62, 1<<62, 1<<62, 1<<62), rect(math.MaxInt, math.MaxInt, 1, 1), rect(math.MinInt, math.MinInt, math.MaxInt, math.MaxInt)}}
	for _, l := range lists {
		for _, x := range edges {
			for _, y := range edges {
				if got := region.Has(l, x, y); got != has(l, x, y) {
					t.Errorf("Has(%v, %d, %d): %v", l, x, y, got)
				}
			}
		}
	}
}

func TestGreatestRegion(t *testing.T) {
	all := []api.Rect{rect(-far, -far, 2*far, 2*far)}
	if got := region.Area(all); got != 1<<42 {
		t.Error(got)
	}
	if got := region.Bounds(all); got != all[0] {
		t.Error(got)
	}
	quarters := []api.Rect{rect(0, 0, far, far), rect(-far, 0, far, far), rect(0, -far, far, far), rect(-far, -far, far, far)}
	if got := region.Make(quarters...); !slices.Equal(got, all) {
		t.Error(got)
	}
	middle := []api.Rect{rect(0, 0, 1, 1)}
	hole := region.Minus(all, middle)
	if !slices.Equal(hole, []api.Rect{rect(-far, -far, 2*far, far), rect(-far, 0, far, 1), rect(1, 0, far-1, 1), rect(-far, 1, 2*far, far-1)}) || region.Area(hole) != 1<<42-1 || region.Has(hole, 0, 0) || !region.Has(hole, -1, 0) {
		t.Error(hole)
	}
	if got := region.Union(hole, middle); !slices.Equal(got, all) {
		t.Error(got)
	}
	if got := region.Minus(all, hole); !slices.Equal(got, middle) {
		t.Error(got)
	}
	if got := region.Both(hole, middle); len(got) > 0 {
		t.Error(got)
	}
	if got := region.Shift(hole, 0, 1); !slices.Equal(got, []api.Rect{rect(-far, 1-far, 2*far, far), rect(-far, 1, far, 1), rect(1, 1, far-1, 1)}) {
		t.Error(got)
	}
	if got := region.Shift(all, 1, 0); len(got) > 0 {
		t.Error(got)
	}
}

// board is every second place of a square, as a region.
func board(side int) []api.Rect {
	var l []api.Rect
	for y := range side {
		for x := y % 2; x < side; x += 2 {
			l = append(l, rect(x, y, 1, 1))
		}
	}
	return l
}

func TestLongLists(t *testing.T) {
	t.Parallel()
	const n = 20000
	var nested, steps, bars, same []api.Rect
	for i := range n {
		nested = append(nested, rect(i, i, 2*(n-i), 2*(n-i)))
		steps = append(steps, rect(i, i, n, n))
		bars = append(bars, rect(2*i, -i, 1, n))
		same = append(same, rect(5, 5, 5, 5))
	}
	if got := region.Make(nested...); !slices.Equal(got, nested[:1]) {
		t.Errorf("%d nested ones", len(got))
	}
	slices.Reverse(nested)
	if got := region.Make(nested...); !slices.Equal(got, nested[n-1:]) {
		t.Errorf("%d nested ones", len(got))
	}
	if got := region.Make(same...); !slices.Equal(got, same[:1]) {
		t.Errorf("%d that are the same", len(got))
	}
	// At each step the right side goes on by one, then the left one does.
	got := region.Make(steps...)
	if len(got) != 2*n-1 || region.Area(steps) != n*n+(n-1)*(2*n-1) || region.Bounds(steps) != rect(0, 0, 2*n-1, 2*n-1) {
		t.Errorf("%d of steps", len(got))
	}
	if got := region.Make(bars[:300]...); region.Area(got) != 300*n || region.Bounds(got) != rect(0, -299, 599, n+299) {
		t.Errorf("%d of bars", len(got))
	}
	black := board(200)
	if got := region.Make(black...); !slices.Equal(got, black) {
		t.Errorf("%d of a board", len(got))
	}
	white := region.Minus([]api.Rect{rect(0, 0, 200, 200)}, black)
	if !slices.Equal(region.Shift(white, 1, 0), region.Union(region.Minus(black, []api.Rect{rect(0, 0, 1, 200)}), region.Shift(region.Both(white, []api.Rect{rect(199, 0, 1, 200)}), 1, 0))) {
		t.Errorf("%d of the rest of a board", len(white))
	}
	slices.Reverse(black)
	if got := region.Union(black, white); !slices.Equal(got, []api.Rect{rect(0, 0, 200, 200)}) {
		t.Errorf("%d of a whole board", len(got))
	}
}

func TestNothingIsShared(t *testing.T) {
	a := append(make([]api.Rect, 0, 99), rect(0, 0, 2, 2), rect(0, 2, 0, 9), rect(5, 0, 2, 2), rect(1, 1, 9, 1))
	b := append(make([]api.Rect, 0, 99), rect(0, 0, 2, 2), rect(5, 0, 2, 2), rect(0, 5, 1, 1))
	keptA, keptB := slices.Clone(a), slices.Clone(b)
	calls := []func() []api.Rect{
		func() []api.Rect { return region.Make(a...) }, func() []api.Rect { return region.Make(b...) },
		func() []api.Rect { return region.Union(a, b) }, func() []api.Rect { return region.Union(b, nil) }, func() []api.Rect { return region.Union(nil, b) },
		func() []api.Rect { return region.Minus(a, b) }, func() []api.Rect { return region.Minus(b, nil) },
		func() []api.Rect { return region.Both(a, b) }, func() []api.Rect { return region.Both(b, b) },
		func() []api.Rect { return region.Shift(a, 1, 2) }, func() []api.Rect { return region.Shift(b, 0, 0) },
	}
	for i, call := range calls {
		first, second := call(), call()
		want := slices.Clone(first)
		// What stands behind it, if there is something, too.
		for j := range first[:cap(first)] {
			first[:cap(first)][j] = rect(-9, -9, -9, -9)
		}
		if !slices.Equal(second, want) || !slices.Equal(call(), want) {
			t.Errorf("%d: two answers share their rectangles", i)
		}
		region.Has(a, 1, 1)
		region.Area(a)
		region.Bounds(a)
		if !slices.Equal(a, keptA) || !slices.Equal(b, keptB) {
			t.Fatalf("%d: what was handed in was changed: %v, %v", i, a, b)
		}
		for _, l := range [][]api.Rect{a, b} {
			if slices.ContainsFunc(l[len(l):cap(l)], func(r api.Rect) bool { return r != api.Rect{} }) {
				t.Fatalf("%d: something was written behind what was handed in", i)
			}
		}
	}
}

func TestManyAtATime(t *testing.T) {
	faults := make([]int, 8)
	pick := chance(4)
	a, b := some(pick, 40, 30), some(pick, 40, 30)
	want := region.Minus(a, b)
	var all sync.WaitGroup
	for i := range faults {
		all.Go(func() {
			for range 50 {
				if !slices.Equal(region.Minus(a, b), want) || !slices.Equal(region.Shift(want, 0, 0), want) {
					faults[i]++
				}
			}
		})
	}
	all.Wait()
	if !slices.Equal(faults, make([]int, 8)) {
		t.Error(faults)
	}
}

func FuzzAll(f *testing.F) {
	f.Add(uint64(1), 0, 0, 2, 2, 1, 1)
	for i, n := range edges {
		f.Add(uint64(i), n, 1, 3, n, n, -n)
	}
	f.Fuzz(func(t *testing.T, seed uint64, x, y, w, h, dx, dy int) {
		pick := chance(seed)
		a, b := some(pick, 12, 4+pick(20)), some(pick, 12, 4+pick(20))
		a = append(a, rect(x, y, w, h), rect(x, y, h, w), rect(y, w, x, h))
		b = append(b, rect(w, h, x, y), rect(x-1, y, w, h))
		checkTwo(t, a, b)
		checkShift(t, a, dx, dy)
		if region.Has(a, dx, dy) != has(a, dx, dy) {
			t.Fatalf("Has(%v, %d, %d)", a, dx, dy)
		}
		c, d := region.Area(a), region.Area(b)
		if region.Area(region.Both(a, b))+region.Area(region.Union(a, b)) != c+d || region.Area(region.Minus(a, b)) != c-region.Area(region.Both(a, b)) {
			t.Fatalf("Area(%v): %d; Area(%v): %d", a, c, b, d)
		}
		if l := region.Make(region.Bounds(a)); len(region.Minus(a, l)) > 0 || region.Bounds(region.Make(a...)) != region.Bounds(a) {
			t.Fatalf("Bounds(%v): %v", a, l)
		}
	})
}

func BenchmarkUnionOfABoardAndOne(b *testing.B) {
	l, r := board(90), []api.Rect{rect(45, 44, 1, 1)}
	for b.Loop() {
		region.Union(l, r)
	}
}

func BenchmarkUnionOfFew(b *testing.B) {
	l, r := board(4), []api.Rect{rect(1, 2, 1, 1)}
	for b.Loop() {
		region.Union(l, r)
	}
}

func BenchmarkMakeOfMany(b *testing.B) {
	pick := chance(5)
	var l []api.Rect
	for range 5000 {
		l = append(l, rect(pick(4000), pick(4000), 1+pick(60), 1+pick(60)))
	}
	for b.Loop() {
		region.Make(l...)
	}
}

func TestSourceStandsOnThoseBelowAlone(t *testing.T) {
	src, err := os.ReadFile("region.go")
	if err != nil {
		t.Fatal(err)
	}
	f, err := parser.ParseFile(token.NewFileSet(), "region.go", src, 0)
	if err != nil {
		t.Fatal(err)
	}
	for _, i := range f.Imports {
		if !slices.Contains([]string{`"iter"`, `"slices"`, `"mirador/api"`}, i.Path.Value) {
			t.Errorf("import of %s", i.Path.Value)
		}
	}
	closures, many := 0, 0
	ast.Inspect(f, func(n ast.Node) bool {
		switch n.(type) {
		case *ast.FuncLit:
			closures++
		case *ast.Ellipsis:
			many++
		}
		return true
	})
	if closures == 0 || many == 0 {
		t.Errorf("%d closures, %d variadic calls", closures, many)
	}
	if tidy, err := format.Source(src); err != nil || string(tidy) != string(src) {
		t.Errorf("not gofmt's layout: %v", err)
	}
}
