// Package octets is layer 1: see shared/doc/01-octets.md.
package octets

import (
	"math"

	"mirador/api"
)

// Put is a number as bytes, the greatest one first.
func Put(size, n int) (string, api.Errno) { return write(size, n, turned(size)) }

// Little is a number as bytes, the least one first.
func Little(size, n int) (string, api.Errno) { return write(size, n, straight()) }

// Signed is a number, perhaps below 0, in four bytes.
func Signed(n int) string {
	if n < math.MinInt32 || n > math.MaxInt32 {
		return ""
	}
	// The wrap-round of 32 bits adds 4294967296 to what is below 0.
	s, _ := Put(4, int(uint32(n)))
	return s
}

// turned tells where each byte stands, counted from the least one, when the greatest one is first.
func turned(size int) func(int) int {
	return func(i int) int { return size - 1 - i }
}

// straight tells where each byte stands when the least one is first.
func straight() func(int) int {
	return func(i int) int { return i }
}

// write lays the bytes of n, from the least one on, where place says.
func write(size, n int, place func(int) int) (string, api.Errno) {
	if !isSize(size) || n < 0 || !fits(size, n) {
		return "", api.ErrArg
	}
	b := make([]byte, size)
	for i := range size {
		b[place(i)] = byte(n >> (8 * i))
	}
	return string(b), api.OK
}

// read is the number whose bytes, from the least one on, stand where place says.
func read(s string, place func(int) int) int {
	n := 0
	for i := range len(s) {
		n |= int(s[place(i)]) << (8 * i)
	}
	return n
}

func isSize(size int) bool { return size == 1 || size == 2 || size == 4 }

func fits(size, n int) bool { return n>>(8*size) == 0 }

// Cursor goes through a text.
//
// One that is nil is as one of the empty text, but it has no place to keep an error.
type Cursor struct {
	text string
	at   int
	err  api.Errno
}

// New is at a text's beginning.
func New(s string) *Cursor { return &Cursor{text: s} }

// Int is the next number.
func (c *Cursor) Int(size int) int { return c.number(size, turned(size)) }

// Little is the next number, the least byte first.
func (c *Cursor) Little(size int) int { return c.number(size, straight()) }

// Signed is the next number, perhaps below 0.
func (c *Cursor) Signed() int { return int(int32(c.Int(4))) }

// number is the next number of size bytes, which stand where place says.
func (c *Cursor) number(size int, place func(int) int) int {
	if !isSize(size) {
		c.keep(api.ErrArg)
		return 0
	}
	// Bytes that can't be had are the empty text, and that reads as nought.
	return read(c.Bytes(size), place)
}

// Bytes are the next bytes.
func (c *Cursor) Bytes(n int) string {
	if n < 0 {
		c.keep(api.ErrArg)
	} else if n > c.Left() {
		c.keep(api.ErrMore)
	}
	if c == nil || c.err != api.OK {
		return ""
	}
	s := c.text[c.at : c.at+n]
	c.at += n
	return s
}

// keep holds on to an error, unless an earlier one is held.
func (c *Cursor) keep(e api.Errno) {
	if c != nil && c.err == api.OK {
		c.err = e
	}
}

// At is how many bytes were passed.
func (c *Cursor) At() int {
	if c == nil {
		return 0
	}
	return c.at
}

// Left is how many there are yet.
func (c *Cursor) Left() int {
	if c == nil {
		return 0
	}
	return len(c.text) - c.at
}

// Err is the first error.
func (c *Cursor) Err() api.Errno {
	if c == nil {
		return api.OK
	}
	return c.err
}

// End is the first error, or ErrBad, if something is left.
func (c *Cursor) End() api.Errno {
	if e := c.Err(); e != api.OK {
		return e
	}
	if c.Left() > 0 {
		return api.ErrBad
	}
	return api.OK
}
