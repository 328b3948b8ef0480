package picture_test

import (
	"bytes"
	"compress/zlib"
	"encoding/binary"
	"go/format"
	"go/parser"
	"go/token"
	"hash/crc32"
	"image"
	"image/color"
	"image/png"
	"io"
	"math"
	"os"
	"regexp"
	"slices"
	"strings"
	"sync"
	"testing"

	"mirador/api"
	"mirador/deflate"
	"mirador/filter"
	"mirador/picture"
	"mirador/zstream"
)

const signature = "\x89\x50\x4e\x47\x0d\x0a\x1a\x0a"

// splits are how many bytes each chunk may have, at and around the edges.
var splits = []int{math.MinInt, -1, 0, 1, 2, 3, 7, 100, 1 << 16, math.MaxInt - 1, math.MaxInt}

// chance answers numbers from 0 to n - 1, the same ones for every seed.
func chance(seed uint64) func(n int) int {
	return func(n int) int {
		seed = seed*6364136223846793005 + 1442695040888963407
		return int(seed>>33) % n
	}
}

// direct is a picture whose pixels are of their own colours.
func direct(w, h int, pixel func(x, y int) int) api.Picture {
	p := api.Picture{Image: api.Image{W: w, H: h}}
	for y := range h {
		for x := range w {
			p.Image.Pix = append(p.Image.Pix, pixel(x, y))
		}
	}
	return p
}

// indexed is a picture whose pixels are of a palette's colours.
func indexed(w, h int, palette []int, place func(x, y int) int) api.Picture {
	p := direct(w, h, func(x, y int) int { return palette[place(x, y)] })
	p.Palette = palette
	return p
}

// colours are n of them, by a seed.
func colours(seed uint64, n int) []int {
	pick := chance(seed)
	l := make([]int, n)
	for i := range l {
		l[i] = pick(1 << 24)
	}
	return l
}

func one(colour int) api.Picture { return direct(1, 1, func(int, int) int { return colour }) }

// pictures are right ones of several kinds.
func pictures() []api.Picture {
	smooth := func(x, y int) int { return (2*x%256)<<16 | (3*y%256)<<8 | (x+y)%256 }
	noise := func(seed uint64) func(x, y int) int {
		pick := chance(seed)
		return func(int, int) int { return pick(1 << 24) }
	}
	any256, any99 := colours(1, 256), colours(2, 99)
	l := []api.Picture{
		one(0), one(0xffffff), one(0x010203), one(0x800000), one(0x0000ff),
		direct(3, 2, func(x, y int) int { return []int{1, 2, 3, 0x10203, 0xff00ff, 7}[3*y+x] }),
		direct(40, 30, func(int, int) int { return 0 }), direct(64, 64, smooth), direct(17, 90, smooth), direct(31, 33, noise(3)), direct(170, 140, noise(4)),
		direct(4096, 1, smooth), direct(1, 4096, smooth), direct(4096, 2, noise(5)), direct(2, 4096, smooth), direct(300, 200, func(x, y int) int { return (x / 16 * y / 16) << 4 }),
		indexed(1, 1, []int{0}, func(int, int) int { return 0 }), indexed(1, 1, []int{0xffffff}, func(int, int) int { return 0 }),
		indexed(3, 2, []int{9, 5, 77}, func(x, y int) int { return []int{1, 0, 1, 0, 1, 1}[3*y+x] }),
		indexed(5, 5, []int{7, 7, 8, 7, 8}, func(x, y int) int { return (x + y) % 5 }),
		indexed(16, 16, any256, func(x, y int) int { return 16*y + x }), indexed(9, 40, any256, func(x, y int) int { return 255 - x*y%256 }),
		indexed(4096, 1, any99, func(x, _ int) int { return x % 99 }), indexed(1, 4096, any256, func(_, y int) int { return y % 256 }), indexed(200, 300, any99, func(x, y int) int { return x / 8 * (y / 8) % 99 }),
	}
	pick := chance(6)
	for i := range 60 {
		w, h := 1+pick(20), 1+pick(20)
		palette := colours(uint64(100+i), 1+pick(256))
		l = append(l, direct(w, h, noise(uint64(200+i))), direct(w, h, smooth), indexed(h, w, palette, func(int, int) int { return pick(len(palette)) }))
	}
	return l
}

func same(p, q api.Picture) bool {
	return p.Image.W == q.Image.W && p.Image.H == q.Image.H && slices.Equal(p.Image.Pix, q.Image.Pix) && slices.Equal(p.Palette, q.Palette)
}

// nothing is whether an answer is a zero one.
func nothing(p api.Picture) bool {
	return p.Image.W == 0 && p.Image.H == 0 && p.Image.Pix == nil && p.Palette == nil
}

func four(n int) string { return string(binary.BigEndian.AppendUint32(nil, uint32(n))) }

func number(s string) int { return int(binary.BigEndian.Uint32([]byte(s))) }

// chunk is the rule for Chunk.
func chunk(kind, data string) string {
	return four(len(data)) + kind + data + four(int(crc32.ChecksumIEEE([]byte(kind+data))))
}

// head is a header's chunk.
func head(w, h, kind int) string {
	return chunk("IHDR", four(w)+four(h)+string([]byte{8, byte(kind), 0, 0, 0}))
}

// chunksOf is the rule for Chunks.
func chunksOf(s string) ([]string, []string, api.Errno) {
	for i := range len(signature) {
		if i == len(s) {
			return nil, nil, api.ErrMore
		}
		if s[i] != signature[i] {
			return nil, nil, api.ErrHeader
		}
	}
	s = s[len(signature):]
	var kinds, data []string
	for {
		if len(s) < 4 {
			return nil, nil, api.ErrMore
		}
		n := number(s)
		if n > 2147483647 {
			return nil, nil, api.ErrLarge
		}
		if len(s) < 12+n {
			return nil, nil, api.ErrMore
		}
		if s[:12+n] != chunk(s[4:8], s[8:8+n]) {
			return nil, nil, api.ErrSum
		}
		kinds, data = append(kinds, s[4:8]), append(data, s[8:8+n])
		if s = s[12+n:]; kinds[len(kinds)-1] != "IEND" {
			continue
		}
		if s != "" {
			return nil, nil, api.ErrBad
		}
		return kinds, data, api.OK
	}
}

// The orders in which chunks may come behind a header, a letter each.
var (
	directOrder  = regexp.MustCompile(`^a*D+a*E$`)
	indexedOrder = regexp.MustCompile(`^a*Pa*D+a*E$`)
)

// letter is what a chunk counts as.
func letter(kind, data string) string {
	switch {
	case kind == "PLTE" && len(data) > 0 && len(data)%3 == 0 && len(data)/3 <= 256:
		return "P"
	case kind == "IDAT":
		return "D"
	case kind == "IEND" && data == "":
		return "E"
	case strings.Contains("abcdefghijklmnopqrstuvwxyz", kind[:1]):
		return "a"
	}
	return "x"
}

// decode is the rule for Decode.
func decode(s string, most int) (api.Picture, api.Errno) {
	kinds, data, e := chunksOf(s)
	if e != api.OK {
		return api.Picture{}, e
	}
	if kinds[0] != "IHDR" || len(data[0]) != 13 {
		return api.Picture{}, api.ErrChunk
	}
	w, h, n, order := number(data[0]), number(data[0][4:]), 0, directOrder
	switch data[0][8:] {
	case "\x08\x02\x00\x00\x00":
		n = 3
	case "\x08\x03\x00\x00\x00":
		n, order = 1, indexedOrder
	}
	if n == 0 || w < 1 || w > 4096 || h < 1 || h > 4096 {
		return api.Picture{}, api.ErrImage
	}
	if w*h > most {
		return api.Picture{}, api.ErrLarge
	}
	letters, packed, p := "", "", api.Picture{Image: api.Image{W: w, H: h}}
	for i, kind := range kinds[1:] {
		letters += letter(kind, data[1+i])
		switch kind {
		case "IDAT":
			packed += data[1+i]
		case "PLTE":
			for j := 0; j+3 <= len(data[1+i]); j += 3 {
				p.Palette = append(p.Palette, number("\x00"+data[1+i][j:j+3]))
			}
		}
	}
	if !order.MatchString(letters) {
		return api.Picture{}, api.ErrChunk
	}
	rows, begun, e := zstream.Open(packed, (1+w*n)*h)
	if e != api.OK && e != api.ErrLarge {
		return api.Picture{}, e
	}
	if e == api.ErrLarge || len(rows) != (1+w*n)*h || begun != len(packed) || !fill(&p, rows, n) {
		return api.Picture{}, api.ErrImage
	}
	return p, api.OK
}

// fill makes the pixels of rows.
func fill(p *api.Picture, rows string, n int) bool {
	above, size := make([]byte, p.Image.W*n), 1+p.Image.W*n
	for y := range p.Image.H {
		line := []byte(rows[y*size : (y+1)*size])
		kind, row := int(line[0]), line[1:]
		if kind > 4 {
			return false
		}
		for i := range row {
			a, c := 0, 0
			if i >= n {
				a, c = int(row[i-n]), int(above[i-n])
			}
			row[i] += byte(filter.Guess(kind, a, int(above[i]), c))
		}
		for i := 0; i < len(row); i += n {
			if n == 3 {
				p.Image.Pix = append(p.Image.Pix, int(row[i])<<16|int(row[i+1])<<8|int(row[i+2]))
			} else if int(row[i]) < len(p.Palette) {
				p.Image.Pix = append(p.Image.Pix, p.Palette[row[i]])
			} else {
				return false
			}
		}
		above = row
	}
	return true
}

// checkDecode holds Decode against its rule, and Chunks, too.
func checkDecode(t *testing.T, s string, most int) {
	t.Helper()
	want, fault := decode(s, most)
	p, e := picture.Decode(s, most)
	if e != fault || !same(p, want) || e != api.OK && !nothing(p) {
		t.Fatalf("Decode(%.400q, %d): %d to %d, %v; want %d to %d, %v", s, most, p.Image.W, p.Image.H, e, want.Image.W, want.Image.H, fault)
	}
	kinds, data, e := picture.Chunks(s)
	if k, d, f := chunksOf(s); e != f || !slices.Equal(kinds, k) || !slices.Equal(data, d) {
		t.Fatalf("Chunks(%.400q): %q, %v; want %q, %v", s, kinds, e, k, f)
	}
}

func TestExamples(t *testing.T) {
	if s := picture.Chunk("IEND", ""); s != "\x00\x00\x00\x00\x49\x45\x4e\x44\xae\x42\x60\x82" {
		t.Errorf("%x", s)
	}
}

func TestRightPictures(t *testing.T) {
	for i, p := range pictures() {
		if !picture.Right(p) {
			t.Error(i)
		}
	}
	if !picture.Right(api.Picture{Image: api.Image{W: 1, H: 2, Pix: []int{5, 6}}, Palette: []int{}}) {
		t.Error("an empty palette is none")
	}
	if !picture.Right(api.Picture{Image: api.Image{W: 2, H: 2, Pix: []int{5, 5, 5, 5}}, Palette: make([]int, 256)[:0:0]}) {
		t.Error("an empty palette is none")
	}
	most := make([]int, 256)
	if most[255] = 5; !picture.Right(api.Picture{Image: api.Image{W: 2, H: 2, Pix: []int{5, 0, 5, 5}}, Palette: most}) {
		t.Error("256 colours")
	}
	if all := make([]int, 4096*4096); !picture.Right(api.Picture{Image: api.Image{W: 4096, H: 4096, Pix: all}}) {
		t.Error("both sides the greatest")
	}
}

// wrongPictures are ones that can't be, each by one fault.
func wrongPictures() []api.Picture {
	made := func(w, h int, pix, palette []int) api.Picture {
		return api.Picture{Image: api.Image{W: w, H: h, Pix: pix}, Palette: palette}
	}
	l := []api.Picture{
		{}, made(0, 0, nil, nil), made(0, 1, nil, nil), made(1, 0, nil, nil), made(0, 0, []int{1}, nil), made(1, 1, nil, nil), made(0, 5, nil, []int{1}),
		made(-1, -1, []int{1}, nil), made(-2, -2, make([]int, 4), nil), made(-1, 1, nil, nil), made(1, -1, nil, nil),
		made(4097, 1, make([]int, 4097), nil), made(1, 4097, make([]int, 4097), nil), made(4097, 1, make([]int, 4097), []int{0}), made(8192, 8192, nil, nil),
		made(1<<32, 1<<32, nil, nil), made(1<<62, 4, nil, nil), made(4, 1<<62, nil, nil), made(math.MinInt, 2, nil, nil), made(math.MaxInt, math.MaxInt, []int{1}, nil), made(math.MinInt, math.MinInt, nil, nil), made(math.MinInt, -1, nil, nil),
		made(1, 2, []int{1}, nil), made(1, 2, []int{1, 1, 1}, nil), made(2, 3, make([]int, 5), []int{0}), made(2, 3, make([]int, 7), []int{0}), made(64, 64, make([]int, 4095), nil),
		made(1, 1, []int{5}, []int{6}), made(2, 1, []int{6, 5}, []int{6}), made(2, 1, []int{5, 6}, []int{6}), made(1, 1, []int{0}, []int{1, 2, 3}), made(1, 1, []int{1}, make([]int, 256)),
		made(1, 1, []int{0}, make([]int, 257)), made(1, 1, []int{5}, append(make([]int, 256), 5)), made(1, 1, []int{5}, append([]int{5}, make([]int, 999)...)),
	}
	for _, c := range []int{-1, -2, -1 << 24, -1 << 32, math.MinInt, 1 << 24, 1<<24 + 5, 1<<32 | 5, 1<<32 - 1, math.MaxInt} {
		l = append(l, made(1, 1, []int{c}, nil), made(3, 1, []int{5, 5, c}, nil), made(3, 1, []int{c, 5, 5}, nil), made(1, 1, []int{c}, []int{5}),
			made(1, 1, []int{c}, []int{c}), made(1, 1, []int{5}, []int{5, c}), made(1, 1, []int{5}, []int{c, 5}), made(2, 1, []int{c, 5}, []int{c, 5}))
	}
	return l
}

func TestWrongPictures(t *testing.T) {
	for i, p := range wrongPictures() {
		if picture.Right(p) {
			t.Errorf("%d is right", i)
		}
		for _, split := range splits {
			if s, e := picture.Encode(p, split); s != "" || e != api.ErrImage {
				t.Errorf("%d, %d: %.40q, %v", i, split, s, e)
			}
		}
	}
}

func TestChunk(t *testing.T) {
	pick := chance(7)
	for _, kind := range []string{"IHDR", "PLTE", "IDAT", "IEND", "teXt", "\x00\x00\x00\x00", "\xff\xfe\xfd\xfc", "    ", "ééé"[:4]} {
		for _, n := range []int{0, 1, 2, 3, 4, 255, 256, 257, 65535, 65536, 70000} {
			data := make([]byte, n)
			for i := range data {
				data[i] = byte(pick(256))
			}
			if s := picture.Chunk(kind, string(data)); s != chunk(kind, string(data)) {
				t.Errorf("%q of %d bytes: %.40x", kind, n, s)
			}
		}
	}
	for _, kind := range []string{"", "I", "IE", "IEN", "IENDS", "IEND\x00", "IENDIEND", "éé\x00", "\x00", strings.Repeat("x", 1<<16)} {
		if s := picture.Chunk(kind, "data"); s != "" {
			t.Errorf("%.40q: %x", kind, s)
		}
	}
}

func TestSignature(t *testing.T) {
	behind := head(1, 1, 2) + chunk("IEND", "")
	for i := range len(signature) {
		if k, d, e := picture.Chunks(signature[:i]); k != nil || d != nil || e != api.ErrMore {
			t.Errorf("%d bytes: %q, %q, %v", i, k, d, e)
		}
		if p, e := picture.Decode(signature[:i], 9); !nothing(p) || e != api.ErrMore {
			t.Errorf("%d bytes: %v, %v", i, p, e)
		}
		for bit := range 8 {
			wrong := []byte(signature + behind)
			wrong[i] ^= 1 << bit
			for n := i + 1; n <= len(wrong); n++ {
				if k, d, e := picture.Chunks(string(wrong[:n])); k != nil || d != nil || e != api.ErrHeader {
					t.Fatalf("%x: %q, %q, %v", wrong[:n], k, d, e)
				}
			}
			if p, e := picture.Decode(string(wrong), 9); !nothing(p) || e != api.ErrHeader {
				t.Fatalf("%x: %v, %v", wrong, p, e)
			}
		}
	}
	if _, _, e := picture.Chunks(behind); e != api.ErrHeader {
		t.Error(e)
	}
}

func TestChunks(t *testing.T) {
	t.Parallel()
	pick := chance(8)
	for i := range 300 {
		var kinds, data []string
		s := signature
		for range pick(6) {
			kinds = append(kinds, []string{"IHDR", "IDAT", "aaaa", "iEND", "IENd", "\x00\x00\x00\x00", "\xff\xff\xff\xff"}[pick(7)])
			data = append(data, strings.Repeat(string(rune('a'+pick(26))), pick(300)))
			s += chunk(kinds[len(kinds)-1], data[len(data)-1])
		}
		kinds, data = append(kinds, "IEND"), append(data, []string{"", "x", chunk("IEND", "")}[pick(3)])
		s += chunk("IEND", data[len(data)-1])
		if k, d, e := picture.Chunks(s); !slices.Equal(k, kinds) || !slices.Equal(d, data) || e != api.OK {
			t.Fatalf("%d: %q, %v; want %q", i, k, e, kinds)
		}
		for _, more := range []string{"\x00", "x", chunk("IEND", ""), chunk("aaaa", ""), "\x80\x00\x00\x00"} {
			if k, d, e := picture.Chunks(s + more); k != nil || d != nil || e != api.ErrBad {
				t.Fatalf("%d, %x behind it: %q, %v", i, more, k, e)
			}
		}
		for n := range len(s) {
			if k, d, e := picture.Chunks(s[:n]); k != nil || d != nil || e != api.ErrMore {
				t.Fatalf("%d, %d bytes: %q, %v", i, n, k, e)
			}
		}
	}
}

func TestChunksByHand(t *testing.T) {
	end, sum := chunk("IEND", ""), "\x00\x00\x00\x00"
	wrong := end[:8] + sum
	for i, x := range []struct {
		s    string
		want api.Errno
	}{
		{"", api.ErrMore}, {"\x00", api.ErrMore}, {"\x80", api.ErrMore}, {"\xff\xff\xff", api.ErrMore}, {end, api.OK},
		// A length is looked at as soon as it is there, and ahead of all else.
		{"\x80\x00\x00\x00", api.ErrLarge}, {"\x80\x00\x00\x00IEND" + sum, api.ErrLarge}, {"\xff\xff\xff\xff", api.ErrLarge}, {"\xff\xff\xff\xffIE", api.ErrLarge}, {"\x7f\xff\xff\xff", api.ErrMore}, {"\x7f\xff\xff\xffIEND" + sum, api.ErrMore}, {"\x00\x01\x00\x00IEND" + sum, api.ErrMore},
		{end[:4], api.ErrMore}, {end[:7], api.ErrMore}, {end[:8], api.ErrMore}, {end[:11], api.ErrMore}, {end[:11] + "x", api.ErrSum}, {wrong, api.ErrSum},
		// The first one that errs tells.
		{wrong + "x", api.ErrSum}, {end + "x", api.ErrBad}, {end + wrong, api.ErrBad}, {end + end, api.ErrBad}, {chunk("aaaa", "") + wrong, api.ErrSum}, {chunk("aaaa", "") + "\x80\x00\x00\x00", api.ErrLarge}, {chunk("aaaa", "")[:8] + sum + "\x80\x00\x00\x00", api.ErrSum}, {chunk("aaaa", "")[:8] + sum + end, api.ErrSum}, {"\x80\x00\x00\x00" + wrong, api.ErrLarge},
		{chunk("aaaa", "xyz")[:4] + "aaab" + chunk("aaaa", "xyz")[8:] + end, api.ErrSum}, {chunk("aaaa", "xyz")[:8] + "xyy" + chunk("aaaa", "xyz")[11:] + end, api.ErrSum}, {chunk("IEND", "xyz"), api.OK}, {chunk("iend", ""), api.ErrMore}, {chunk("iend", "") + end, api.OK},
	} {
		kinds, data, e := picture.Chunks(signature + x.s)
		if e != x.want || (e == api.OK) != (len(kinds) > 0) || len(kinds) != len(data) {
			t.Errorf("%d: %q, %q, %v; want %v", i, kinds, data, e, x.want)
		}
		if p, e := picture.Decode(signature+x.s, 9); x.want != api.OK && (!nothing(p) || e != x.want) || e == api.OK {
			t.Errorf("%d: %v, %v; want %v", i, p, e, x.want)
		}
	}
}

// library is what the library's PNG reads: pixels, and a palette, if there is one.
func library(t *testing.T, s string) api.Picture {
	t.Helper()
	m, err := png.Decode(strings.NewReader(s))
	if err != nil {
		t.Fatal(err)
	}
	hex := func(c color.Color) int {
		r, g, b, _ := c.RGBA()
		return int(r>>8)<<16 | int(g>>8)<<8 | int(b>>8)
	}
	p := direct(m.Bounds().Dx(), m.Bounds().Dy(), func(x, y int) int { return hex(m.At(x, y)) })
	if m, ok := m.(*image.Paletted); ok {
		for _, c := range m.Palette {
			p.Palette = append(p.Palette, hex(c))
		}
	}
	return p
}

func TestWhatIsEncodedIsDecoded(t *testing.T) {
	t.Parallel()
	for i, p := range pictures() {
		n := p.Image.W * p.Image.H
		for _, split := range splits {
			if split == 1 && n > 4096 {
				continue
			}
			s, e := picture.Encode(p, split)
			if e != api.OK {
				t.Fatalf("%d, %d: %v", i, split, e)
			}
			if q, e := picture.Decode(s, n); !same(p, q) || e != api.OK {
				t.Fatalf("%d, %d: %v", i, split, e)
			}
			if n <= 1200 {
				checkDecode(t, s, n)
			}
		}
	}
}

func TestTheLibraryReadsWhatIsEncoded(t *testing.T) {
	t.Parallel()
	for i, p := range pictures() {
		for _, split := range []int{0, 5, 1000} {
			s, e := picture.Encode(p, split)
			if q := library(t, s); e != api.OK || !same(p, q) {
				t.Errorf("%d, %d: %v", i, split, e)
			}
		}
	}
}

func TestChunksOfWhatIsEncoded(t *testing.T) {
	t.Parallel()
	for i, p := range pictures() {
		whole, size := "", 3
		ahead := []string{"IHDR"}
		if len(p.Palette) > 0 {
			ahead, size = append(ahead, "PLTE"), 1
		}
		for _, split := range splits {
			s, _ := picture.Encode(p, split)
			kinds, data, e := chunksOf(s)
			if e != api.OK {
				t.Fatalf("%d, %d: %v", i, split, e)
			}
			last, k := len(kinds)-1, len(ahead)
			if !slices.Equal(kinds[:k], ahead) || kinds[last] != "IEND" || data[last] != "" || slices.ContainsFunc(kinds[k:last], func(k string) bool { return k != "IDAT" }) {
				t.Fatalf("%d, %d: %q", i, split, kinds)
			}
			if data[0] != four(p.Image.W)+four(p.Image.H)+string([]byte{8, byte(4 - (size+1)/2), 0, 0, 0}) || size == 1 && len(data[1]) != 3*len(p.Palette) {
				t.Fatalf("%d, %d: %x", i, split, data[:2])
			}
			packed := strings.Join(data[k:last], "")
			if whole == "" {
				whole = packed
			}
			// As many as it needs: one, or as few as can be, each with as much as may be.
			want := []string{packed}
			if split > 0 {
				want = nil
				for b := range slices.Chunk([]byte(packed), split) {
					want = append(want, string(b))
				}
			}
			if packed != whole || packed == "" || !slices.Equal(data[k:last], want) {
				t.Fatalf("%d, %d: %d bytes in %d", i, split, len(packed), last-k)
			}
		}
		rows, n, e := zstream.Open(whole, (1+p.Image.W*size)*p.Image.H)
		if len(rows) != (1+p.Image.W*size)*p.Image.H || n != len(whole) || e != api.OK {
			t.Fatalf("%d: %d, %d, %v", i, len(rows), n, e)
		}
	}
}

func TestWhatIsEncodedIsShort(t *testing.T) {
	for i, x := range []struct {
		p    api.Picture
		most int
	}{
		{direct(256, 256, func(int, int) int { return 0x123456 }), 1000}, {direct(256, 256, func(x, y int) int { return x<<16 | y<<8 | (x+y)&255 }), 4000},
		{indexed(256, 256, []int{1, 2}, func(x, y int) int { return x / 8 % 2 }), 1000}, {direct(256, 256, func(x, y int) int { return x / 32 * 99 * (y / 32) }), 3000},
	} {
		if s, e := picture.Encode(x.p, 0); len(s) > x.most || e != api.OK {
			t.Errorf("%d: %d bytes, %v", i, len(s), e)
		}
	}
}

func TestTheGreatestSides(t *testing.T) {
	t.Parallel()
	p := indexed(4096, 4096, []int{0xff, 0xff00}, func(x, y int) int { return x / 64 * (y / 64) % 2 })
	s, e := picture.Encode(p, 1000)
	if e != api.OK {
		t.Fatal(e)
	}
	if q, e := picture.Decode(s, 4096*4096); !same(p, q) || e != api.OK {
		t.Error(e)
	}
	if q, e := picture.Decode(s, 4096*4096-1); !nothing(q) || e != api.ErrLarge {
		t.Error(e)
	}
}

func TestWhatTheLibraryWrites(t *testing.T) {
	t.Parallel()
	for i, p := range pictures() {
		bounds := image.Rect(0, 0, p.Image.W, p.Image.H)
		at := func(c int) color.Color { return color.RGBA{byte(c >> 16), byte(c >> 8), byte(c), 255} }
		for _, level := range []png.CompressionLevel{png.DefaultCompression, png.NoCompression, png.BestSpeed, png.BestCompression} {
			m := image.NewRGBA(bounds)
			for j, c := range p.Image.Pix {
				m.Set(j%p.Image.W, j/p.Image.W, at(c))
			}
			var b bytes.Buffer
			pen := png.Encoder{CompressionLevel: level}
			if err := pen.Encode(&b, m); err != nil {
				t.Fatal(err)
			}
			if q, e := picture.Decode(b.String(), len(p.Image.Pix)); !same(api.Picture{Image: p.Image}, q) || e != api.OK {
				t.Fatalf("%d, %v: %v", i, level, e)
			}
			if len(p.Palette) == 0 {
				continue
			}
			l := image.NewPaletted(bounds, nil)
			for _, c := range p.Palette {
				l.Palette = append(l.Palette, at(c))
			}
			for j, c := range p.Image.Pix {
				l.Pix[j] = byte(slices.Index(p.Palette, c))
			}
			b.Reset()
			if err := pen.Encode(&b, l); err != nil {
				t.Fatal(err)
			}
			// Of few colours it makes pixels of fewer than 8 bits.
			if q, e := picture.Decode(b.String(), len(p.Image.Pix)); len(p.Palette) > 16 && (!same(p, q) || e != api.OK) || len(p.Palette) <= 16 && (!nothing(q) || e != api.ErrImage) {
				t.Fatalf("%d, %v, %d colours: %v", i, level, len(p.Palette), e)
			}
		}
	}
}

func TestPicturesOfOtherKinds(t *testing.T) {
	bounds := image.Rect(0, 0, 5, 4)
	for i, m := range []image.Image{image.NewGray(bounds), image.NewGray16(bounds), image.NewNRGBA(bounds), image.NewRGBA64(bounds), image.NewNRGBA64(bounds), image.NewPaletted(bounds, []color.Color{color.Black, color.White})} {
		var b bytes.Buffer
		if err := png.Encode(&b, m); err != nil {
			t.Fatal(err)
		}
		if p, e := picture.Decode(b.String(), 20); !nothing(p) || e != api.ErrImage {
			t.Errorf("%d: %v", i, e)
		}
	}
}

// filtered are rows that hold what the bytes of pix make, by kinds of filters.
func filtered(t *testing.T, width, step int, pix string, kinds func() int) string {
	t.Helper()
	rows, above := "", ""
	for ; pix != ""; pix = pix[width*step:] {
		kind := kinds()
		s, e := filter.Filter(kind, step, above, pix[:width*step])
		if e != api.OK {
			t.Fatal(e)
		}
		rows, above = rows+string([]byte{byte(kind)})+s, pix[:width*step]
	}
	return rows
}

func TestRowsOfEachFilter(t *testing.T) {
	t.Parallel()
	pick := chance(9)
	for i := range 400 {
		w, h, palette := 1+pick(12), 1+pick(12), colours(uint64(i), 256)
		step, kind, ahead := 3, 2, ""
		if i%2 == 1 {
			step, kind = 1, 3
			for _, c := range palette {
				ahead += four(c)[1:]
			}
			ahead = chunk("PLTE", ahead)
		}
		pix := make([]byte, w*h*step)
		for i := range pix {
			pix[i] = byte(pick(256))
		}
		rows := filtered(t, w, step, string(pix), func() int { return pick(5) })
		s := signature + head(w, h, kind) + ahead + chunk("IDAT", zstream.Whole(rows)) + chunk("IEND", "")
		p, e := picture.Decode(s, w*h)
		if e != api.OK || p.Image.W != w || p.Image.H != h || len(p.Image.Pix) != w*h {
			t.Fatalf("%d: %v", i, e)
		}
		for j, c := range p.Image.Pix {
			want := palette[pix[j*step]]
			if step == 3 {
				want = number("\x00" + string(pix[3*j:3*j+3]))
			}
			if c != want {
				t.Fatalf("%d: pixel %d is %06x, want %06x", i, j, c, want)
			}
		}
		if step == 1 && !slices.Equal(p.Palette, palette) || step == 3 && p.Palette != nil {
			t.Fatalf("%d: %x", i, p.Palette)
		}
		checkDecode(t, s, w*h)
	}
}

// The chunks that orders are made of: two headers, right and wrong palettes, data, others and ends.
var orderly = []struct{ kind, data string }{
	{"IHDR", "\x00\x00\x00\x01\x00\x00\x00\x01\x08\x02\x00\x00\x00"}, {"IHDR", ""}, {"PLTE", "\x01\x02\x03"}, {"PLTE", ""}, {"PLTE", "\x01\x02\x03\x04"}, {"IDAT", "\x01"}, {"IDAT", ""}, {"aaaa", "\x01"}, {"zLTE", ""}, {"Aaaa", ""}, {"IEND", ""}, {"IEND", "\x01"},
}

func TestOrdersOfChunks(t *testing.T) {
	t.Parallel()
	for _, kind := range []int{2, 3} {
		packed := zstream.Whole("\x00\x07\x08\x09")
		if kind == 3 {
			packed = zstream.Whole("\x00\x00")
		}
		want := map[bool]int{}
		tried := 0
		var try func(s string, left string, depth int)
		try = func(s, left string, depth int) {
			if e := chunk("IEND", ""); depth == 0 {
				checkDecode(t, s+e, 1)
				_, fault := decode(s+e, 1)
				want[fault == api.OK]++
				tried++
				return
			}
			try(s, left, 0)
			for _, x := range orderly {
				// Data with something in it is the next piece, the last one all that is left.
				if x.kind == "IDAT" && x.data != "" && left != "" {
					n := min(len(left), 5)
					try(s+chunk("IDAT", left), "", depth-1)
					try(s+chunk("IDAT", left[:n]), left[n:], depth-1)
				} else if x.kind == "IEND" {
					checkDecode(t, s+chunk(x.kind, x.data), 1)
				} else {
					try(s+chunk(x.kind, x.data), left, depth-1)
				}
			}
		}
		try(signature+head(1, 1, kind), packed, 4)
		if want[true] < 20 || want[false] < 1000 {
			t.Errorf("kind %d: %v of %d", kind, want, tried)
		}
	}
}

func TestOrdersByHand(t *testing.T) {
	direct, indexed, end := head(1, 1, 2), head(1, 1, 3), chunk("IEND", "")
	three, palette := zstream.Whole("\x00\x01\x02\x03"), chunk("PLTE", "\x01\x02\x03")
	px, place, other := chunk("IDAT", three), chunk("IDAT", zstream.Whole("\x00\x00")), chunk("teXt", "hi")
	none := chunk("IDAT", "")
	kind := func(k string) string { return chunk(k, "") }
	for i, x := range []struct {
		s    string
		want api.Errno
	}{
		{direct + px + end, api.OK}, {indexed + palette + place + end, api.OK}, {other + direct + px + end, api.ErrChunk}, {px + end, api.ErrChunk}, {end, api.ErrChunk}, {palette + indexed + place + end, api.ErrChunk}, {chunk("IHDr", "") + direct + px + end, api.ErrChunk},
		{direct + direct + px + end, api.ErrChunk}, {direct + px + direct + end, api.ErrChunk}, {indexed + palette + indexed + place + end, api.ErrChunk},
		{direct + palette + px + end, api.ErrChunk}, {direct + px + palette + end, api.ErrChunk}, {indexed + palette + palette + place + end, api.ErrChunk}, {indexed + place + palette + end, api.ErrChunk}, {indexed + palette + place + palette + end, api.ErrChunk}, {indexed + palette + other + palette + place + end, api.ErrChunk},
		{indexed + place + end, api.ErrChunk}, {indexed + other + place + end, api.ErrChunk}, {indexed + end, api.ErrChunk}, {indexed + palette + end, api.ErrChunk}, {direct + end, api.ErrChunk}, {direct + other + end, api.ErrChunk},
		{direct + other + px + other + other + end, api.OK}, {indexed + other + palette + other + other + place + other + end, api.OK},
		{direct + chunk("IDAT", three[:3]) + chunk("IDAT", three[3:]) + end, api.OK}, {direct + none + chunk("IDAT", three[:3]) + none + none + chunk("IDAT", three[3:]) + none + end, api.OK},
		{direct + chunk("IDAT", three[:3]) + other + chunk("IDAT", three[3:]) + end, api.ErrChunk}, {direct + px + other + none + end, api.ErrChunk}, {direct + none + other + px + end, api.ErrChunk}, {direct + px + other + px + end, api.ErrChunk}, {direct + none + end, api.ErrMore},
		{direct + px + chunk("IEND", "\x00"), api.ErrChunk}, {direct + chunk("IEND", "\x00"), api.ErrChunk},
		{direct + kind("aaaa") + px + end, api.OK}, {direct + kind("zzzz") + px + end, api.OK}, {direct + kind("iDAT") + px + end, api.OK}, {direct + px + kind("iEND") + end, api.OK}, {direct + kind("pLTE") + px + kind("a\x00\xff ") + end, api.OK},
		{direct + kind("`aaa") + px + end, api.ErrChunk}, {direct + kind("{aaa") + px + end, api.ErrChunk}, {direct + kind("Aaaa") + px + end, api.ErrChunk}, {direct + kind("Zaaa") + px + end, api.ErrChunk}, {direct + px + kind("tRNS") + end, api.OK}, {direct + px + kind("\x00aaa") + end, api.ErrChunk}, {direct + px + kind("\xe1aaa") + end, api.ErrChunk}, {direct + px + kind("IDAt") + end, api.ErrChunk}, {direct + px + kind("IHDr") + end, api.ErrChunk}, {direct + kind("PLTe") + px + end, api.ErrChunk},
		// What is odd comes ahead of what data holds.
		{direct + chunk("IDAT", "wrong") + kind("Aaaa") + end, api.ErrChunk}, {direct + chunk("IDAT", "wrong") + end, api.ErrHeader},
	} {
		checkDecode(t, signature+x.s, 1)
		if _, e := picture.Decode(signature+x.s, 1); e != x.want {
			t.Errorf("%d: %v, want %v", i, e, x.want)
		}
	}
}

func TestFirstLettersOfKinds(t *testing.T) {
	px, end := chunk("IDAT", zstream.Whole("\x00\x01\x02\x03")), chunk("IEND", "")
	for b := range 256 {
		first := string([]byte{byte(b)})
		want := api.ErrChunk
		if b >= 'a' && b <= 'z' {
			want = api.OK
		}
		if _, e := picture.Decode(signature+head(1, 1, 2)+chunk(first+"\xff00", "x")+px+end, 1); e != want {
			t.Errorf("%q: %v", first, e)
		}
	}
}

func TestHeaders(t *testing.T) {
	px, end := chunk("IDAT", zstream.Whole("\x00\x01\x02\x03")), chunk("IEND", "")
	right := four(1) + four(1) + "\x08\x02\x00\x00\x00"
	for n := range 40 {
		data := strings.Repeat(right, 4)[:n]
		want := api.ErrChunk
		if n == 13 {
			want = api.OK
		}
		if _, e := picture.Decode(signature+chunk("IHDR", data)+px+end, 1); e != want {
			t.Errorf("%d bytes: %v", n, e)
		}
	}
	for i := 8; i < 13; i++ {
		for b := range 256 {
			data := []byte(right)
			data[i] = byte(b)
			want := api.ErrImage
			if b == int(right[i]) {
				want = api.OK
			} else if i == 9 && b == 3 {
				want = api.ErrChunk // there is no palette
			}
			if p, e := picture.Decode(signature+chunk("IHDR", string(data))+px+end, 1); e != want || (e == api.OK) == nothing(p) {
				t.Errorf("%d at %d: %v", b, i, e)
			}
		}
	}
	for _, n := range []int{0, 4097, 65536, 1 << 24, 1 << 31, 1<<31 - 1, 1<<32 - 1, 1 << 16, 4096 << 16} {
		for _, h := range []string{head(n, 1, 2), head(1, n, 2), head(n, n, 2), head(n, 1, 3), head(n, 1, 4)} {
			// Sides that can't be are told ahead of too many pixels, and of all that stands behind.
			for _, behind := range []string{px, "", head(1, 1, 2), chunk("Aaaa", "")} {
				for _, most := range []int{math.MinInt, 0, 1, math.MaxInt} {
					if p, e := picture.Decode(signature+h+behind+end, most); e != api.ErrImage || !nothing(p) {
						t.Errorf("side %d: %v", n, e)
					}
				}
			}
		}
	}
}

func TestHowManyPixels(t *testing.T) {
	for _, p := range []api.Picture{one(5), direct(4096, 1, func(x, _ int) int { return x }), indexed(7, 9, []int{1, 2}, func(x, y int) int { return x & 1 })} {
		s, _ := picture.Encode(p, 0)
		n := p.Image.W * p.Image.H
		for _, most := range []int{n, n + 1, 1 << 32, math.MaxInt} {
			if q, e := picture.Decode(s, most); !same(p, q) || e != api.OK {
				t.Errorf("%d of %d: %v", n, most, e)
			}
		}
		for _, most := range []int{n - 1, 0, -1, -n, math.MinInt} {
			if q, e := picture.Decode(s, most); !nothing(q) || e != api.ErrLarge {
				t.Errorf("%d of %d: %v", n, most, e)
			}
		}
	}
	// Too many pixels are told ahead of what stands behind the header, behind what the header is.
	for _, behind := range []string{"", head(2, 2, 2), chunk("Aaaa", ""), chunk("IDAT", "x")} {
		if _, e := picture.Decode(signature+head(2, 2, 2)+behind+chunk("IEND", ""), 3); e != api.ErrLarge {
			t.Error(e)
		}
		if _, e := picture.Decode(signature+head(2, 2, 0)+behind+chunk("IEND", ""), 3); e != api.ErrImage {
			t.Error(e)
		}
	}
	if _, e := picture.Decode(signature+head(2, 2, 2)+chunk("IEND", "")+"x", 3); e != api.ErrBad {
		t.Error(e)
	}
}

func TestPalettes(t *testing.T) {
	t.Parallel()
	end := chunk("IEND", "")
	for n := range 800 {
		data := strings.Repeat("\x00\x01\x02\x03\x04\x05\xff", n/7+1)[:n]
		for _, place := range []int{0, 1, 2, n/3 - 1, n / 3, n/3 + 1, 254, 255} {
			if place < 0 || place > 255 {
				continue
			}
			want := api.ErrImage
			switch {
			case n == 0 || n%3 != 0 || n > 768:
				want = api.ErrChunk
			case place < n/3:
				want = api.OK
			}
			s := signature + head(1, 1, 3) + chunk("PLTE", data) + chunk("IDAT", zstream.Whole("\x00"+string([]byte{byte(place)}))) + end
			p, e := picture.Decode(s, 1)
			if e != want || e != api.OK && !nothing(p) || e == api.OK && (len(p.Palette) != n/3 || p.Image.Pix[0] != number("\x00"+data[3*place:3*place+3])) {
				t.Errorf("%d bytes, place %d: %v, %v; want %v", n, place, p, e, want)
			}
		}
	}
}

func TestWhatDataHolds(t *testing.T) {
	right := "\x00\x01\x02\x03\x04\x05\x06\x00\x07\x08\x09\x0a\x0b\x0c"
	whole := zstream.Whole(right)
	sum := whole[len(whole)-4:]
	framed := func(blocks string) string { return whole[:2] + blocks + sum }
	for i, x := range []struct {
		packed string
		want   api.Errno
	}{
		{whole, api.OK}, {whole + "x", api.ErrImage}, {whole + whole, api.ErrImage}, {"", api.ErrMore}, {whole[:1], api.ErrMore}, {whole[:2], api.ErrMore}, {whole[:len(whole)-1], api.ErrMore}, {whole[:len(whole)-4], api.ErrMore}, {whole[:len(whole)-1] + "\xee", api.ErrSum},
		{"\x78\x9d", api.ErrHeader}, {"\x78\x9d" + whole[2:], api.ErrHeader}, {"xx" + whole, api.ErrHeader},
		{zstream.Whole(right[:13]), api.ErrImage}, {zstream.Whole(""), api.ErrImage}, {zstream.Whole(right[:7]), api.ErrImage}, {zstream.Whole(right + "\x00"), api.ErrImage}, {zstream.Whole(right + right), api.ErrImage}, {zstream.Whole(right[:13]) + "x", api.ErrImage},
		// Blocks that can't be.
		{framed("\x07"), api.ErrBlock}, {framed("\x01\x00\x00\x00\x00"), api.ErrBlock}, {framed("\x05\x00\x00\x00"), api.ErrBlock}, {framed("\x03\x02\x00"), api.ErrDistance}, {framed("\x05\x00\x92\x04"), api.ErrBlock},
		// Filters that there are not, in each row.
		{zstream.Whole("\x05" + right[1:]), api.ErrImage}, {zstream.Whole("\xff" + right[1:]), api.ErrImage}, {zstream.Whole(right[:7] + "\x05" + right[8:]), api.ErrImage}, {zstream.Whole(right[:7] + "\x80" + right[8:]), api.ErrImage}, {zstream.Whole(right[:7] + "\x04" + right[8:]), api.OK},
	} {
		s := signature + head(2, 2, 2) + chunk("IDAT", x.packed) + chunk("IEND", "")
		if _, e := picture.Decode(s, 4); e != x.want {
			t.Errorf("%d: %v, want %v", i, e, x.want)
		}
		checkDecode(t, s, 4)
		// The same, a byte a chunk.
		s = signature + head(2, 2, 2) + chunk("IDAT", "")
		for b := range slices.Chunk([]byte(x.packed), 1) {
			s += chunk("IDAT", string(b))
		}
		if _, e := picture.Decode(s+chunk("IEND", ""), 4); e != x.want {
			t.Errorf("%d, byte by byte: %v, want %v", i, e, x.want)
		}
	}
}

func TestFiltersThatThereAreNot(t *testing.T) {
	for b := range 256 {
		want := api.ErrImage
		if b < 5 {
			want = api.OK
		}
		kind := string([]byte{byte(b)})
		for _, rows := range []string{kind + "\x01\x02\x03\x00\x01\x02\x03", "\x00\x01\x02\x03" + kind + "\x01\x02\x03"} {
			if p, e := picture.Decode(signature+head(1, 2, 2)+chunk("IDAT", zstream.Whole(rows))+chunk("IEND", ""), 2); e != want || (e == api.OK) == nothing(p) {
				t.Errorf("filter %d: %v", b, e)
			}
		}
	}
}

// Much that is packed in little makes no more than the rows have.
func TestMuchInLittle(t *testing.T) {
	packed := zstream.Whole(strings.Repeat("\x00", 1<<24))
	if p, e := picture.Decode(signature+head(1, 1, 2)+chunk("IDAT", packed)+chunk("IEND", ""), math.MaxInt); !nothing(p) || e != api.ErrImage {
		t.Error(e)
	}
	if p, e := picture.Decode(signature+head(4096, 4096, 2)+chunk("IDAT", packed[:9])+chunk("IEND", ""), math.MaxInt); !nothing(p) || e != api.ErrMore {
		t.Error(e)
	}
}

func TestWhatIsCutOffOrSpoilt(t *testing.T) {
	t.Parallel()
	pick := chance(10)
	for i, p := range pictures() {
		if len(p.Image.Pix) > 400 {
			continue
		}
		s, _ := picture.Encode(p, 1+pick(60))
		for range 12 {
			n := pick(len(s))
			if q, e := picture.Decode(s[:n], 400); !nothing(q) || e != api.ErrMore {
				t.Fatalf("%d, %d bytes: %v", i, n, e)
			}
			b := []byte(s)
			b[n] ^= 1 << pick(8)
			if q, e := picture.Decode(string(b), 400); !nothing(q) || e == api.OK {
				t.Fatalf("%d, byte %d is another one: %v", i, n, e)
			}
			checkDecode(t, string(b), 400)
		}
	}
}

// What is spoilt below a right sum.
func TestDataThatIsSpoilt(t *testing.T) {
	t.Parallel()
	pick := chance(11)
	for _, p := range pictures() {
		if len(p.Image.Pix) > 400 {
			continue
		}
		s, _ := picture.Encode(p, 1+pick(60))
		kinds, data, _ := chunksOf(s)
		for range 30 {
			k, d := slices.Clone(kinds), slices.Clone(data)
			for range 1 + pick(2) {
				i := pick(len(k))
				switch b := []byte(d[i]); pick(6) {
				case 0, 1:
					if len(b) > 0 {
						b[pick(len(b))] ^= 1 << pick(8)
						d[i] = string(b)
					}
				case 2:
					d[i] = d[i][:pick(len(b)+1)]
				case 3:
					j := pick(len(k))
					k[i], k[j], d[i], d[j] = k[j], k[i], d[j], d[i]
				case 4:
					k, d = slices.Insert(k, i, "tEXt"), slices.Insert(d, i, "x")
				case 5:
					d[i] += "\x00"
				}
			}
			made := signature
			for i := range k {
				made += chunk(k[i], d[i])
			}
			checkDecode(t, made, 400-pick(200))
		}
	}
}

// Rows whose sum is right, but that say anything.
func TestAnyRows(t *testing.T) {
	t.Parallel()
	pick := chance(12)
	for range 2000 {
		w, h, n := 1+pick(3), 1+pick(3), 1
		ahead := chunk("PLTE", strings.Repeat("abc", 1+pick(5)))
		if pick(2) == 0 {
			n, ahead = 3, ""
		}
		rows := make([]byte, (1+w*n)*h+[]int{0, 0, 0, 1, -1}[pick(5)])
		for i := range rows {
			rows[i] = byte(pick(6))
		}
		checkDecode(t, signature+head(w, h, 3-n/2)+ahead+chunk("IDAT", zstream.Whole(string(rows)))+chunk("IEND", ""), 9)
	}
}

func TestBlocksOfEachKind(t *testing.T) {
	rows := strings.Repeat("\x01\x01\x02\x03"+strings.Repeat("\x00\x00\x01", 29), 30)
	want, fault := decode(signature+head(30, 30, 2)+chunk("IDAT", zstream.Whole(rows))+chunk("IEND", ""), 900)
	if fault != api.OK || len(want.Image.Pix) != 900 {
		t.Fatal(fault)
	}
	for level := zlib.HuffmanOnly; level <= zlib.BestCompression; level++ {
		var b bytes.Buffer
		w, err := zlib.NewWriterLevel(&b, level)
		if err != nil {
			t.Fatal(err)
		}
		io.WriteString(w, rows[:999])
		w.Flush()
		io.WriteString(w, rows[999:])
		w.Close()
		if p, e := picture.Decode(signature+head(30, 30, 2)+chunk("IDAT", b.String())+chunk("IEND", ""), 900); !same(p, want) || e != api.OK {
			t.Errorf("level %d: %v", level, e)
		}
	}
	// A stream without an end is no frame.
	var p zstream.Packer
	if _, e := picture.Decode(signature+head(30, 30, 2)+chunk("IDAT", p.Segment(rows))+chunk("IEND", ""), 900); e != api.ErrMore {
		t.Error(e)
	}
	if _, e := picture.Decode(signature+head(30, 30, 2)+chunk("IDAT", deflate.Whole("", rows))+chunk("IEND", ""), 900); e == api.OK {
		t.Error("blocks without a frame")
	}
}

func TestNothingIsShared(t *testing.T) {
	p := indexed(4, 4, []int{7, 8, 9}, func(x, y int) int { return (x + y) % 3 })
	pix, palette := slices.Clone(p.Image.Pix), slices.Clone(p.Palette)
	s, _ := picture.Encode(p, 9)
	if !slices.Equal(p.Image.Pix, pix) || !slices.Equal(p.Palette, palette) {
		t.Error("Encode has changed a picture")
	}
	a, _ := picture.Decode(s, 16)
	b, _ := picture.Decode(s, 16)
	k, d, _ := picture.Chunks(s)
	for _, l := range [][]int{p.Image.Pix, p.Palette, a.Image.Pix, a.Palette} {
		for i := range l {
			l[i] = 1
		}
	}
	_ = append(a.Palette, 2)
	_ = append(a.Image.Pix, 2)
	k[0], d[0] = "", ""
	if !slices.Equal(b.Image.Pix, pix) || !slices.Equal(b.Palette, palette) {
		t.Error("two pictures share something")
	}
	if c, e := picture.Decode(s, 16); !same(b, c) || e != api.OK {
		t.Error(e)
	}
}

func TestManyAtATime(t *testing.T) {
	t.Parallel()
	list := pictures()[:10]
	texts := make([]string, len(list))
	for i, p := range list {
		texts[i], _ = picture.Encode(p, 50)
	}
	faults := make([]int, 8)
	var all sync.WaitGroup
	for i := range faults {
		all.Go(func() {
			for j, p := range list {
				s, e := picture.Encode(p, 50)
				q, f := picture.Decode(texts[j], len(p.Image.Pix))
				if s != texts[j] || e != api.OK || f != api.OK || !same(p, q) {
					faults[i]++
				}
			}
		})
	}
	all.Wait()
	if !slices.Equal(faults, make([]int, 8)) {
		t.Error(faults)
	}
}

func BenchmarkEncode(b *testing.B) {
	p := direct(512, 512, func(x, y int) int { return (x/4)<<16 | (y/4)<<8 | (x*y)&255 })
	b.SetBytes(int64(3 * len(p.Image.Pix)))
	for b.Loop() {
		picture.Encode(p, 0)
	}
}

func BenchmarkDecode(b *testing.B) {
	p := direct(512, 512, func(x, y int) int { return (x/4)<<16 | (y/4)<<8 | (x*y)&255 })
	s, _ := picture.Encode(p, 0)
	b.SetBytes(int64(3 * len(p.Image.Pix)))
	for b.Loop() {
		picture.Decode(s, len(p.Image.Pix))
	}
}

func FuzzAll(f *testing.F) {
	for _, p := range pictures()[:20] {
		s, _ := picture.Encode(p, 40)
		f.Add(s[8:], 5000, 3)
	}
	f.Fuzz(func(t *testing.T, s string, most, split int) {
		if len(s) > 1<<12 {
			return
		}
		most = min(most, 1<<16)
		checkDecode(t, s, most)
		checkDecode(t, signature+s, most)
		checkDecode(t, signature+head(2, 2, 2)+chunk("IDAT", s)+chunk("IEND", ""), most)
		checkDecode(t, signature+head(2, 2, 3)+chunk("PLTE", "abcdefghi")+chunk("IDAT", zstream.Whole(s))+chunk("IEND", ""), most)
		if c := picture.Chunk("IDAT", s); c != chunk("IDAT", s) {
			t.Errorf("%x", c)
		}
		p, e := picture.Decode(signature+s, most)
		if picture.Right(p) != (e == api.OK) {
			t.Error("what is decoded is not right")
		}
		back, fault := picture.Encode(p, split)
		if e != api.OK {
			if back != "" || fault != api.ErrImage {
				t.Error(fault)
			}
			return
		}
		if q, e := picture.Decode(back, most); !same(p, q) || e != api.OK || fault != api.OK {
			t.Error(e, fault)
		}
	})
}

func TestSourceStandsOnThoseBelowAlone(t *testing.T) {
	src, err := os.ReadFile("picture.go")
	if err != nil {
		t.Fatal(err)
	}
	f, err := parser.ParseFile(token.NewFileSet(), "picture.go", src, parser.ImportsOnly)
	if err != nil {
		t.Fatal(err)
	}
	for _, i := range f.Imports {
		if !slices.Contains([]string{`"iter"`, `"slices"`, `"strings"`, `"mirador/api"`, `"mirador/crcs"`, `"mirador/filter"`, `"mirador/octets"`, `"mirador/zstream"`}, i.Path.Value) {
			t.Errorf("import of %s", i.Path.Value)
		}
	}
	if tidy, err := format.Source(src); err != nil || string(tidy) != string(src) {
		t.Errorf("not gofmt's layout: %v", err)
	}
}
