package filter_test

import (
	"bytes"
	"compress/zlib"
	"encoding/binary"
	"go/format"
	"go/parser"
	"go/token"
	"hash/crc32"
	"image"
	"image/png"
	"io"
	"math"
	"math/big"
	"os"
	"slices"
	"strings"
	"sync"
	"testing"

	"mirador/api"
	"mirador/filter"
)

var kinds = []int{filter.None, filter.Sub, filter.Up, filter.Average, filter.Paeth}

// wrongKinds are numbers that are no kinds.
var wrongKinds = []int{math.MinInt, -1 << 32, -256, -5, -1, 5, 6, 7, 8, 255, 256, 260, 1 << 32, 1<<32 + 1, math.MaxInt}

// edges are numbers at and around the edges of bytes and of ints.
var edges = []int{
	math.MinInt, math.MinInt + 1, math.MinInt + 2, math.MinInt / 2, math.MinInt/2 - 1, -1 << 32, -257, -256, -255, -3, -2, -1,
	0, 1, 2, 3, 127, 128, 254, 255, 256, 257, 1 << 32, math.MaxInt / 2, math.MaxInt/2 + 1, math.MaxInt - 2, math.MaxInt - 1, math.MaxInt,
}

// chance answers numbers from 0 to n - 1, the same ones for every seed.
func chance(seed uint64) func(n int) int {
	return func(n int) int {
		seed = seed*6364136223846793005 + 1442695040888963407
		return int(seed>>33) % n
	}
}

// anyBytes are n bytes that have nothing in common, by a seed.
func anyBytes(seed uint64, n int) string {
	pick := chance(seed)
	b := make([]byte, n)
	for i := range b {
		b[i] = byte(pick(256))
	}
	return string(b)
}

// smooth are n bytes each of which is not far from the one step ahead, by a seed.
func smooth(seed uint64, step, n int) string {
	pick := chance(seed)
	b := make([]byte, n)
	for i := range b {
		b[i] = byte(pick(5))
		if i >= step {
			b[i] += b[i-step] - 2
		}
	}
	return string(b)
}

// pair is a row, and the one above it.
type pair struct{ prev, row string }

// pairs are rows of several kinds.
func pairs() []pair {
	up := make([]byte, 256)
	for i := range up {
		up[i] = byte(i)
	}
	all := string(up)
	slices.Reverse(up)
	down := string(up)
	l := []pair{
		{"", ""}, {"", "\x00"}, {"", "\xff"}, {"\x00", "\xff"}, {"\xff", "\x00"}, {"\x80", "\x7f"}, {"", "\x01\x03\x06"}, {"abc", "abc"}, {"", all}, {all, down}, {down, all}, {all, all},
		{"", strings.Repeat("\xff", 300)}, {strings.Repeat("\xff", 300), strings.Repeat("\x00", 300)}, {strings.Repeat("\x00", 300), strings.Repeat("\xff", 300)}, {strings.Repeat("\xff", 300), strings.Repeat("\xff", 300)},
		{"", anyBytes(1, 12288)}, {anyBytes(2, 12288), anyBytes(3, 12288)}, {smooth(4, 3, 3000), smooth(5, 3, 3000)}, {"", smooth(6, 1, 4096)},
	}
	pick := chance(7)
	for i := range 60 {
		n := pick(24)
		l = append(l, pair{"", anyBytes(uint64(100+i), n)}, pair{anyBytes(uint64(200+i), n), anyBytes(uint64(300+i), n)}, pair{smooth(uint64(400+i), 2, n), smooth(uint64(500+i), 2, n)})
	}
	return l
}

// steps are ones within a row of n bytes, at its edge and beyond it.
func steps(n int) []int {
	l := []int{1, 2, 3, 4, 7, n - 1, n, n + 1, 1 << 20, math.MaxInt - 1, math.MaxInt}
	return slices.DeleteFunc(l, func(step int) bool { return step < 1 })
}

// guess is the chapter's rule for Guess, by numbers that are as great as they need.
func guess(kind, a, b, c int) int {
	sum := new(big.Int).Add(big.NewInt(int64(a)), big.NewInt(int64(b)))
	switch kind {
	case 1:
		return a
	case 2:
		return b
	case 3:
		return int(sum.Quo(sum, big.NewInt(2)).Int64())
	case 4:
		p := sum.Sub(sum, big.NewInt(int64(c)))
		far := func(n int) *big.Int {
			d := new(big.Int).Sub(p, big.NewInt(int64(n)))
			return d.Abs(d)
		}
		switch fa, fb, fc := far(a), far(b), far(c); {
		case fa.Cmp(fb) <= 0 && fa.Cmp(fc) <= 0:
			return a
		case fb.Cmp(fc) <= 0:
			return b
		}
		return c
	}
	return 0
}

// at is a row's byte at place i, 0 where there is none.
func at(row string, i int) int {
	if i < 0 || i >= len(row) {
		return 0
	}
	return int(row[i])
}

// wrong is whether a row can't be filtered so.
func wrong(kind, step int, prev, row string) bool {
	return kind < 0 || kind > 4 || step < 1 || len(prev) != 0 && len(prev) != len(row)
}

// filtered is the rule for Filter.
func filtered(kind, step int, prev, row string) (string, api.Errno) {
	if wrong(kind, step, prev, row) {
		return "", api.ErrArg
	}
	var made []byte
	for i := range len(row) {
		made = append(made, byte(256+at(row, i)-filter.Guess(kind, at(row, i-step), at(prev, i), at(prev, i-step))))
	}
	return string(made), api.OK
}

// unfiltered is the rule for Unfilter.
func unfiltered(kind, step int, prev, row string) (string, api.Errno) {
	if wrong(kind, step, prev, row) {
		return "", api.ErrArg
	}
	made := ""
	for i := range len(row) {
		made += string([]byte{byte(at(row, i) + filter.Guess(kind, at(made, i-step), at(prev, i), at(prev, i-step)))})
	}
	return made, api.OK
}

// choose is the rule for Choose.
func choose(step int, prev, row string) int {
	var sums []int
	for _, kind := range kinds {
		made, e := filtered(kind, step, prev, row)
		if e != api.OK {
			return 0
		}
		sum := 0
		for _, b := range []byte(made) {
			if b > 127 {
				sum += 256 - int(b)
			} else {
				sum += int(b)
			}
		}
		sums = append(sums, sum)
	}
	return slices.Index(sums, slices.Min(sums))
}

// check holds a row of each kind against the rules.
func check(t *testing.T, step int, prev, row string) {
	t.Helper()
	for _, kind := range kinds {
		want, fault := filtered(kind, step, prev, row)
		made, e := filter.Filter(kind, step, prev, row)
		if made != want || e != fault {
			t.Fatalf("Filter(%d, %d, %.60x, %.60x): %.60x, %v; want %.60x, %v", kind, step, prev, row, made, e, want, fault)
		}
		if back, e := filter.Unfilter(kind, step, prev, made); fault == api.OK && (back != row || e != api.OK) {
			t.Fatalf("Unfilter(%d, %d, %.60x, %.60x): %.60x, %v; want %.60x", kind, step, prev, made, back, e, row)
		}
		if len(row) <= 4096 {
			want, fault = unfiltered(kind, step, prev, row)
			if made, e := filter.Unfilter(kind, step, prev, row); made != want || e != fault {
				t.Fatalf("Unfilter(%d, %d, %.60x, %.60x): %.60x, %v; want %.60x, %v", kind, step, prev, row, made, e, want, fault)
			}
		}
	}
	if kind, want := filter.Choose(step, prev, row), choose(step, prev, row); kind != want {
		t.Fatalf("Choose(%d, %.60x, %.60x): %d, want %d", step, prev, row, kind, want)
	}
}

func TestKinds(t *testing.T) {
	if !slices.Equal(kinds, []int{0, 1, 2, 3, 4}) {
		t.Error(kinds)
	}
}

func TestExamples(t *testing.T) {
	if s, e := filter.Filter(filter.Sub, 1, "", "\x01\x03\x06"); s != "\x01\x02\x03" || e != api.OK {
		t.Errorf("%x, %v", s, e)
	}
	if n := filter.Guess(filter.Paeth, 10, 20, 12); n != 20 {
		t.Error(n)
	}
}

func TestGuessByHand(t *testing.T) {
	for _, x := range []struct{ kind, a, b, c, want int }{
		{filter.None, 7, 8, 9, 0}, {filter.Sub, 7, 8, 9, 7}, {filter.Up, 7, 8, 9, 8}, {filter.Average, 7, 8, 9, 7}, {filter.Average, 255, 255, 0, 255}, {filter.Average, 255, 254, 0, 254}, {filter.Average, 0, 1, 255, 0}, {filter.Average, 1, 0, 255, 0},
		// The nearest one to a + b - c; of equal ones a ahead of b, and b ahead of c.
		{filter.Paeth, 7, 8, 9, 7}, {filter.Paeth, 8, 7, 9, 7}, {filter.Paeth, 9, 8, 7, 9}, {filter.Paeth, 8, 9, 7, 9}, {filter.Paeth, 7, 9, 8, 8}, {filter.Paeth, 9, 7, 8, 8},
		{filter.Paeth, 5, 5, 5, 5}, {filter.Paeth, 5, 8, 5, 8}, {filter.Paeth, 8, 5, 5, 8}, {filter.Paeth, 8, 8, 5, 8}, {filter.Paeth, 2, 8, 4, 8}, {filter.Paeth, 8, 2, 4, 8}, {filter.Paeth, 1, 4, 2, 4}, {filter.Paeth, 4, 1, 2, 4},
		{filter.Paeth, 0, 3, 2, 0}, {filter.Paeth, 3, 0, 2, 0}, {filter.Paeth, 0, 6, 3, 3}, {filter.Paeth, 0, 5, 2, 2}, {filter.Paeth, 5, 0, 3, 3}, {filter.Paeth, 0, 2, 1, 1}, {filter.Paeth, 0, 0, 255, 0}, {filter.Paeth, 255, 255, 0, 255}, {filter.Paeth, 0, 255, 100, 100}, {filter.Paeth, 0, 255, 127, 127}, {filter.Paeth, 0, 255, 128, 128},
		// Numbers that are no bytes.
		{filter.Average, -1, 0, 0, 0}, {filter.Average, -1, -2, 0, -1}, {filter.Average, -3, 2, 0, 0}, {filter.Average, -4, 1, 0, -1}, {filter.Average, math.MaxInt, math.MaxInt, 0, math.MaxInt}, {filter.Average, math.MaxInt, math.MaxInt - 1, 0, math.MaxInt - 1}, {filter.Average, math.MinInt, math.MinInt, 0, math.MinInt}, {filter.Average, math.MinInt, math.MinInt + 1, 0, math.MinInt + 1}, {filter.Average, math.MinInt, math.MaxInt, 0, 0},
		{filter.Paeth, -5, -6, -7, -5}, {filter.Paeth, math.MaxInt, math.MaxInt - 1, math.MinInt, math.MaxInt}, {filter.Paeth, math.MaxInt - 1, math.MaxInt, math.MinInt, math.MaxInt}, {filter.Paeth, math.MinInt + 1, math.MinInt, math.MaxInt, math.MinInt}, {filter.Paeth, math.MinInt, math.MaxInt, 0, 0}, {filter.Paeth, math.MinInt, math.MaxInt, math.MaxInt - 1, math.MinInt},
	} {
		if n := filter.Guess(x.kind, x.a, x.b, x.c); n != x.want {
			t.Errorf("%+v: %d", x, n)
		}
	}
}

func TestGuessOfBytes(t *testing.T) {
	t.Parallel()
	for a := range 256 {
		for b := range 256 {
			for _, kind := range kinds[:4] {
				if n, want := filter.Guess(kind, a, b, 255-a), []int{0, a, b, (a + b) / 2}[kind]; n != want {
					t.Fatalf("%d of %d, %d: %d, want %d", kind, a, b, n, want)
				}
			}
			for c := range 256 {
				p := float64(a + b - c)
				want := c
				switch fa, fb, fc := math.Abs(p-float64(a)), math.Abs(p-float64(b)), math.Abs(p-float64(c)); {
				case fa <= fb && fa <= fc:
					want = a
				case fb <= fc:
					want = b
				}
				if n := filter.Guess(filter.Paeth, a, b, c); n != want {
					t.Fatalf("Paeth of %d, %d, %d: %d, want %d", a, b, c, n, want)
				}
			}
		}
	}
}

func TestGuessOfAnyNumbers(t *testing.T) {
	t.Parallel()
	pick := chance(8)
	numbers := slices.Clone(edges)
	for range 30 {
		numbers = append(numbers, pick(1000)-500, (pick(1<<31)<<33|pick(1<<31)<<2)*(2*pick(2)-1))
	}
	for _, a := range numbers {
		for _, b := range numbers {
			for _, c := range numbers {
				for _, kind := range kinds[3:] {
					if n, want := filter.Guess(kind, a, b, c), guess(kind, a, b, c); n != want {
						t.Fatalf("%d of %d, %d, %d: %d, want %d", kind, a, b, c, n, want)
					}
				}
			}
		}
	}
	for _, a := range edges {
		for _, b := range edges {
			for i, want := range []int{0, a, b} {
				if n := filter.Guess(i, a, b, pick(9)); n != want {
					t.Fatalf("%d of %d, %d: %d", i, a, b, n)
				}
			}
			for _, kind := range wrongKinds {
				if n := filter.Guess(kind, a, b, pick(9)); n != 0 {
					t.Fatalf("%d of %d, %d: %d", kind, a, b, n)
				}
			}
		}
	}
}

func TestRowsByHand(t *testing.T) {
	for i, x := range []struct {
		kind, step     int
		prev, row, out string
	}{
		{filter.None, 1, "abc", "xyz", "xyz"}, {filter.None, 9, "", "\x00\xff", "\x00\xff"}, {filter.None, 1, "", "", ""}, {filter.Paeth, 1, "", "", ""},
		{filter.Sub, 1, "", "\x05\x03\xff\x00", "\x05\xfe\xfc\x01"}, {filter.Sub, 1, "\x09\x09\x09\x09", "\x05\x03\xff\x00", "\x05\xfe\xfc\x01"}, {filter.Sub, 3, "", "\x01\x02\x03\x05\x07\x09", "\x01\x02\x03\x04\x05\x06"}, {filter.Sub, 2, "", "\x05\x06\x07", "\x05\x06\x02"}, {filter.Sub, 3, "", "\x05\x06\x07", "\x05\x06\x07"}, {filter.Sub, math.MaxInt, "", "\x05\x06\x07", "\x05\x06\x07"},
		{filter.Up, 1, "", "\x05\x03\xff", "\x05\x03\xff"}, {filter.Up, 1, "\x01\x04\xff", "\x05\x03\xfe", "\x04\xff\xff"}, {filter.Up, 5, "\x01\x04\xff", "\x05\x03\xfe", "\x04\xff\xff"},
		{filter.Average, 1, "", "\x05\x03\xff", "\x05\x01\xfe"}, {filter.Average, 1, "\x03\xff\xff", "\x05\xff\xff", "\x04\x7d\x00"}, {filter.Average, 2, "\x03\x04\x05", "\x05\x06\x07", "\x04\x04\x02"}, {filter.Average, 3, "\x03\x04\x05", "\x05\x06\x07", "\x04\x04\x05"},
		{filter.Paeth, 1, "", "\x05\x03\xff", "\x05\xfe\xfc"}, {filter.Paeth, 1, "\x01\x02\x03", "\x02\x02\x05", "\x01\x00\x02"}, {filter.Paeth, 2, "\x01\x02\x03", "\x02\x02\x05", "\x01\x00\x02"}, {filter.Paeth, 1, "\x0c\x14", "\x0a\x15", "\xfe\x01"}, {filter.Paeth, 9, "\x0c\x14", "\x0a\x15", "\xfe\x01"}, {filter.Paeth, 1, "\x64\xff", "\x00\x64", "\x9c\x00"},
	} {
		if s, e := filter.Filter(x.kind, x.step, x.prev, x.row); s != x.out || e != api.OK {
			t.Errorf("%d: %x, %v; want %x", i, s, e, x.out)
		}
		if s, e := filter.Unfilter(x.kind, x.step, x.prev, x.out); s != x.row || e != api.OK {
			t.Errorf("%d: %x, %v; want %x", i, s, e, x.row)
		}
	}
	// What was made already counts, not what stood there.
	if s, e := filter.Unfilter(filter.Sub, 1, "", "\x01\x01\x01\x01\xff"); s != "\x01\x02\x03\x04\x03" || e != api.OK {
		t.Errorf("%x, %v", s, e)
	}
	if s, e := filter.Unfilter(filter.Average, 2, "\x04\x04\x04\x04", "\x02\x00\x01\xff"); s != "\x04\x02\x05\x02" || e != api.OK {
		t.Errorf("%x, %v", s, e)
	}
}

func TestRows(t *testing.T) {
	t.Parallel()
	for _, x := range pairs() {
		for _, step := range steps(len(x.row)) {
			check(t, step, x.prev, x.row)
		}
	}
}

func TestNothingAboveIsAsZeros(t *testing.T) {
	for _, x := range pairs() {
		zeros := strings.Repeat("\x00", len(x.row))
		for _, step := range []int{1, 3, math.MaxInt} {
			for _, kind := range kinds {
				a, e := filter.Filter(kind, step, "", x.row)
				b, f := filter.Filter(kind, step, zeros, x.row)
				c, g := filter.Unfilter(kind, step, "", x.row)
				d, h := filter.Unfilter(kind, step, zeros, x.row)
				if a != b || c != d || e != api.OK || f != api.OK || g != api.OK || h != api.OK {
					t.Fatalf("%d, %d, %.60x: %.60x, %.60x, %.60x, %.60x", kind, step, x.row, a, b, c, d)
				}
			}
			if a, b := filter.Choose(step, "", x.row), filter.Choose(step, zeros, x.row); a != b {
				t.Fatalf("%d, %.60x: %d, %d", step, x.row, a, b)
			}
		}
	}
}

func TestWhatCannotBeAsked(t *testing.T) {
	fails := func(kind, step int, prev, row string) {
		t.Helper()
		if s, e := filter.Filter(kind, step, prev, row); s != "" || e != api.ErrArg {
			t.Errorf("Filter(%d, %d, %.60x, %.60x): %.60x, %v", kind, step, prev, row, s, e)
		}
		if s, e := filter.Unfilter(kind, step, prev, row); s != "" || e != api.ErrArg {
			t.Errorf("Unfilter(%d, %d, %.60x, %.60x): %.60x, %v", kind, step, prev, row, s, e)
		}
	}
	for _, kind := range wrongKinds {
		for _, prev := range []string{"", "abc", "ab"} {
			fails(kind, 1, prev, "xyz")
			fails(kind, 0, prev, "")
		}
	}
	for _, kind := range kinds {
		for _, step := range []int{0, -1, -3, math.MinInt} {
			fails(kind, step, "", "")
			fails(kind, step, "", "xyz")
			fails(kind, step, "abc", "xyz")
			if n := filter.Choose(step, "xyz", "xyz"); n != filter.None {
				t.Error(step, n)
			}
		}
		for _, x := range []pair{{"a", ""}, {"a", "xy"}, {"ab", "x"}, {"abc", "wxyz"}, {strings.Repeat("a", 256), ""}, {strings.Repeat("a", 257), "x"}} {
			fails(kind, 1, x.prev, x.row)
			fails(kind, math.MaxInt, x.prev, x.row)
			if n := filter.Choose(1, x.prev, x.row); n != filter.None {
				t.Error(x, n)
			}
		}
	}
}

func TestChooseByHand(t *testing.T) {
	for i, x := range []struct {
		step      int
		prev, row string
		want      int
	}{
		{1, "", "", filter.None}, {1, "", "\x00\x00", filter.None}, {1, "", "\x05", filter.None}, {1, "", "\x05\x05\x05", filter.Sub}, {1, "abc", "abc", filter.Up}, {1, "\x00\x00\x00", "\x05\x05\x05", filter.Sub},
		{4, "", "\x05\x05\x05", filter.None}, {1, "aaaa", "aaaa", filter.Up}, {3, "", "abcabcabcabc", filter.Sub}, {1, "", "\x00\x01\x00\x01", filter.None},
		// Half of 0x50 and 0x30, and of what came of it.
		{1, "\x50\x50\x50\x50", "\x28\x3c\x46\x4b", filter.Average},
		// Now the one ahead, now the one above.
		{1, "\x00\x00\x00\x80\x80\x80", "\x40\x40\x40\xc0\xc0\xc0", filter.Paeth},
		// 128 counts as 128, 255 as 1, so that what is great can be the least.
		{1, "", "\x80\x00", filter.None}, {1, "\x01\x00", "\x00\x01", filter.None}, {1, "", "\xff\xff", filter.Sub}, {1, "", "\xff\x00", filter.None}, {2, "\xff\xff", "\xfe\x01", filter.None}, {1, "\x00\x7f", "\x7f\x00", filter.None},
		{0, "", "\x05\x05\x05", filter.None}, {1, "ab", "abc", filter.None}, {-1, "abc", "abc", filter.None},
	} {
		if n := filter.Choose(x.step, x.prev, x.row); n != x.want || n != choose(x.step, x.prev, x.row) {
			t.Errorf("%d: %d, want %d (%d)", i, n, x.want, choose(x.step, x.prev, x.row))
		}
	}
}

func TestChooseOfShortRows(t *testing.T) {
	t.Parallel()
	came := map[int]int{}
	pick := chance(9)
	for range 30000 {
		n := pick(7)
		prev, row := anyBytes(uint64(pick(1<<30)), n), anyBytes(uint64(pick(1<<30)), n)
		if pick(3) == 0 {
			prev = smooth(uint64(pick(1<<30)), 1, n)
			row = smooth(uint64(pick(1<<30)), 1, n)
		}
		step := 1 + pick(4)
		want := choose(step, prev, row)
		if kind := filter.Choose(step, prev, row); kind != want {
			t.Fatalf("%d, %x, %x: %d, want %d", step, prev, row, kind, want)
		}
		came[want]++
	}
	for _, kind := range kinds {
		if came[kind] == 0 {
			t.Errorf("%d never came", kind)
		}
	}
}

// chunk is a chunk of a PNG picture.
func chunk(kind, data string) string {
	s := binary.BigEndian.AppendUint32(nil, uint32(len(data)))
	s = append(s, kind+data...)
	return string(binary.BigEndian.AppendUint32(s, crc32.ChecksumIEEE([]byte(kind+data))))
}

const signature = "\x89PNG\r\n\x1a\n"

// inPicture is a PNG picture of a step of 1, grey, or 3, with colours, whose rows are filtered already.
func inPicture(width, step int, rows []string) string {
	var z bytes.Buffer
	w := zlib.NewWriter(&z)
	io.WriteString(w, strings.Join(rows, ""))
	w.Close()
	head := binary.BigEndian.AppendUint32(nil, uint32(width))
	head = binary.BigEndian.AppendUint32(head, uint32(len(rows)))
	head = append(head, 8, byte(step-1), 0, 0, 0)
	return signature + chunk("IHDR", string(head)) + chunk("IDAT", z.String()) + chunk("IEND", "")
}

// pixels are an image's bytes, row by row, of step bytes a pixel.
func pixels(m image.Image, step int) []string {
	var rows []string
	for y := range m.Bounds().Dy() {
		var row []byte
		for x := range m.Bounds().Dx() {
			r, g, b, _ := m.At(x, y).RGBA()
			row = append(row, []byte{byte(r >> 8), byte(g >> 8), byte(b >> 8)}[:step]...)
		}
		rows = append(rows, string(row))
	}
	return rows
}

func TestTheLibraryUnfiltersWhatIsFiltered(t *testing.T) {
	t.Parallel()
	pick := chance(10)
	for i, step := range []int{1, 3, 1, 3, 1, 3} {
		width := 1 + 9*i
		var rows, wanted []string
		prev := ""
		for y := range 40 {
			row := anyBytes(uint64(y+100*i), width*step)
			if pick(2) == 0 {
				row = smooth(uint64(y+100*i), step, width*step)
			}
			kind := pick(6)
			if kind == 5 {
				kind = filter.Choose(step, prev, row)
			}
			s, e := filter.Filter(kind, step, prev, row)
			if e != api.OK {
				t.Fatal(e)
			}
			rows, wanted = append(rows, string([]byte{byte(kind)})+s), append(wanted, row)
			prev = row
		}
		m, err := png.Decode(strings.NewReader(inPicture(width, step, rows)))
		if err != nil {
			t.Fatal(err)
		}
		if !slices.Equal(pixels(m, step), wanted) {
			t.Errorf("%d to %d of %d: other pixels", width, len(rows), step)
		}
	}
}

// dataOf is what the data chunks of a PNG picture hold.
func dataOf(t *testing.T, s string) string {
	t.Helper()
	data := ""
	for s = s[len(signature):]; s != ""; {
		n := int(binary.BigEndian.Uint32([]byte(s)))
		if s[4:8] == "IDAT" {
			data += s[8 : 8+n]
		}
		s = s[12+n:]
	}
	r, err := zlib.NewReader(strings.NewReader(data))
	if err != nil {
		t.Fatal(err)
	}
	b, err := io.ReadAll(r)
	if err != nil {
		t.Fatal(err)
	}
	return string(b)
}

func TestWhatTheLibraryFiltersIsUnfiltered(t *testing.T) {
	t.Parallel()
	came := map[byte]int{}
	for seed := range uint64(12) {
		const width, height, step = 50, 60, 3
		m := image.NewNRGBA(image.Rect(0, 0, width, height))
		pick := chance(seed)
		for y := range height {
			for x := range width {
				for i := range step {
					m.Pix[m.PixOffset(x, y)+i] = byte(x*int(seed) + y*(i+2)*pick(2) + x*y/9 + pick(1+5*(y%4)))
				}
				m.Pix[m.PixOffset(x, y)+3] = 255
			}
		}
		var b bytes.Buffer
		png.Encode(&b, m)
		s := dataOf(t, b.String())
		prev := ""
		for y, want := range pixels(m, step) {
			line := s[y*(1+width*step):][:1+width*step]
			row, e := filter.Unfilter(int(line[0]), step, prev, line[1:])
			if row != want || e != api.OK {
				t.Fatalf("row %d of kind %d: %x, %v; want %x", y, line[0], row, e, want)
			}
			if s, e := filter.Filter(int(line[0]), step, prev, row); s != line[1:] || e != api.OK {
				t.Fatalf("row %d of kind %d: %x, %v; want %x", y, line[0], s, e, line[1:])
			}
			prev = row
			came[line[0]]++
		}
	}
	if len(came) < 4 {
		t.Errorf("kinds that came: %v", came)
	}
}

func TestManyAtATime(t *testing.T) {
	prev, row := smooth(11, 3, 6000), smooth(12, 3, 6000)
	best := filter.Choose(3, prev, row)
	faults := make([]int, 8)
	var all sync.WaitGroup
	for i := range faults {
		all.Go(func() {
			for _, kind := range kinds {
				s, e := filter.Filter(kind, 3, prev, row)
				back, f := filter.Unfilter(kind, 3, prev, s)
				if back != row || e != api.OK || f != api.OK || filter.Choose(3, prev, row) != best {
					faults[i]++
				}
			}
		})
	}
	all.Wait()
	if !slices.Equal(faults, make([]int, 8)) {
		t.Error(faults)
	}
}

func BenchmarkChoose(b *testing.B) {
	prev, row := smooth(13, 3, 12288), smooth(14, 3, 12288)
	for b.Loop() {
		filter.Choose(3, prev, row)
	}
}

func FuzzAll(f *testing.F) {
	f.Add(1, 1, "", "\x01\x03\x06")
	f.Add(4, 3, "abcdef", "uvwxyz")
	f.Add(9, -1, "abc", "z")
	f.Fuzz(func(t *testing.T, kind, step int, prev, row string) {
		want, fault := filtered(kind, step, prev, row)
		if s, e := filter.Filter(kind, step, prev, row); s != want || e != fault {
			t.Fatalf("%x, %v; want %x, %v", s, e, want, fault)
		}
		if n := filter.Choose(step, prev, row); n != choose(step, prev, row) {
			t.Fatalf("%d, want %d", n, choose(step, prev, row))
		}
		check(t, 1+step&7, "", row)
		check(t, 1+step&7, prev, prev)
		n := min(len(prev), len(row))
		check(t, 1+step&7, prev[:n], row[:n])
		if g := filter.Guess(kind, step, len(prev)-len(row), n-step); g != guess(kind, step, len(prev)-len(row), n-step) {
			t.Fatalf("%d of %d, %d, %d: %d", kind, step, len(prev)-len(row), n-step, g)
		}
	})
}

// The layer stands on api alone: so it can ask no clock, no chance, no file and no network.
func TestSourceStandsOnApiAlone(t *testing.T) {
	src, err := os.ReadFile("filter.go")
	if err != nil {
		t.Fatal(err)
	}
	f, err := parser.ParseFile(token.NewFileSet(), "filter.go", src, parser.ImportsOnly)
	if err != nil {
		t.Fatal(err)
	}
	for _, i := range f.Imports {
		if !slices.Contains([]string{`"math"`, `"mirador/api"`}, i.Path.Value) {
			t.Errorf("import of %s", i.Path.Value)
		}
	}
	if tidy, err := format.Source(src); err != nil || string(tidy) != string(src) {
		t.Errorf("not gofmt's layout: %v", err)
	}
}
