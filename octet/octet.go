// Package octet is numbers as bytes.
package octet

import (
	"slices"

	"louver/api"
)

// Part is a number, in so many bytes.
type Part struct {
	X    uint64
	Size int
}

// Put is the bytes of numbers, the highest first.
func Put(parts ...Part) []byte {
	var b []byte
	for _, p := range parts {
		if !isSize(p.Size) {
			continue
		}
		for low := 8 * (p.Size - 1); low >= 0; low -= 8 {
			b = append(b, byte(p.X>>low))
		}
	}
	return b
}

// isSize tells whether a number may have so many bytes.
func isSize(n int) bool { return 1 <= n && n <= 8 }

// Cut takes numbers and bytes from bytes.
type Cut struct {
	left []byte
	err  api.Errno
}

// New is one of bytes.
// They are copied: whoever handed them in may change them later.
func New(b []byte) *Cut { return &Cut{left: slices.Clone(b)} }

// Num takes a number of so many bytes.
func (c *Cut) Num(size int) uint64 {
	x := uint64(0)
	for _, low := range c.take(size, isSize(size)) {
		x = x<<8 | uint64(low)
	}
	return x
}

// Bytes takes so many bytes.
func (c *Cut) Bytes(n int) []byte { return slices.Clone(c.take(n, n >= 0)) }

// Left is how many bytes are left.
func (c *Cut) Left() int {
	if c == nil {
		return 0
	}
	return len(c.left)
}

// Err is what went wrong first.
func (c *Cut) Err() api.Errno {
	if c == nil {
		return api.ErrArg
	}
	return c.err
}

// take cuts n bytes off, if n may be; nothing, if something goes, or went, wrong.
func (c *Cut) take(n int, may bool) []byte {
	switch {
	case c == nil || c.err != api.OK:
		return nil
	case !may:
		c.err = api.ErrArg
		return nil
	case n > len(c.left):
		c.err = api.ErrShort
		return nil
	}
	head := c.left[:n:n] // ends where the rest begins: nothing that grows it reaches that
	c.left = c.left[n:]
	return head
}
