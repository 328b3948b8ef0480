package deflate

import (
	"slices"
	"strings"
	"testing"

	"mirador/api"
	"mirador/bitio"
	"mirador/lz"
)

func TestBitsAreThoseThatAreWritten(t *testing.T) {
	for _, s := range []string{"", "a", "in the rain in the main", strings.Repeat("x", 65535), strings.Repeat("in the rain", 500)} {
		for at := range 17 {
			blocks := []block{storedBlock(piece{s, false}, at), storedBlock(piece{s, true}, at)}
			for _, l := range [][]api.Token{lz.Plain(s), lz.Pack("", s), lz.Pack(s+"in the", s)} {
				blocks = append(blocks, codedBlock(l, false, true), codedBlock(l, true, true), codedBlock(l, true, false))
			}
			for i, b := range blocks {
				var w bitio.Writer
				w.Bits(at, 0)
				b.write(&w)
				if w.Len() != at+b.bits {
					t.Errorf("%.20q, block %d behind %d bits: %d bits; %d were told", s, i, at, w.Len()-at, b.bits)
				}
			}
		}
	}
}

func TestBestOfWhatComesVeryOften(t *testing.T) {
	come := []int{often + 1, 1, 0, 2*often - 1, 1, 0}
	before := slices.Clone(come)
	if lens := best(come, 1); !slices.Equal(lens, []int{1, 3, 0, 2, 3}) && !slices.Equal(lens, []int{2, 3, 0, 1, 3}) || !slices.Equal(come, before) {
		t.Error(lens, come)
	}
}
