package octet_test

import (
	"bytes"
	"fmt"
	"math"
	"testing"

	"louver/api"
	"louver/octet"
)

const all = math.MaxUint64

// same tells whether two lists have the same bytes; nil and empty ones do.
func same(t *testing.T, what string, got, want []byte) {
	t.Helper()
	if !bytes.Equal(got, want) {
		t.Errorf("%s: %v, not %v", what, got, want)
	}
}

// stands tells whether a cut has so many bytes left, and what went wrong.
func stands(t *testing.T, what string, c *octet.Cut, left int, e api.Errno) {
	t.Helper()
	if c.Left() != left || c.Err() != e {
		t.Errorf("%s: left %d, error %d, not %d, %d", what, c.Left(), c.Err(), left, e)
	}
}

// P1.1

func TestPut(t *testing.T) {
	for _, c := range []struct {
		what  string
		parts []octet.Part
		want  []byte
	}{
		{"nothing", nil, nil},
		{"the chapter's", []octet.Part{{258, 2}, {5, 1}}, []byte{1, 2, 5}},
		{"in order", []octet.Part{{5, 1}, {258, 2}}, []byte{5, 1, 2}},
		{"noughts ahead", []octet.Part{{1, 4}}, []byte{0, 0, 0, 1}},
		{"a nought", []octet.Part{{0, 3}}, []byte{0, 0, 0}},
		{"the lowest byte", []octet.Part{{0x1234, 1}}, []byte{0x34}},
		{"the lowest bytes", []octet.Part{{0x123456789a, 3}}, []byte{0x56, 0x78, 0x9a}},
		{"all bits, one byte", []octet.Part{{all, 1}}, []byte{255}},
		{"all bits, eight bytes", []octet.Part{{all, 8}}, []byte{255, 255, 255, 255, 255, 255, 255, 255}},
	} {
		same(t, c.what, octet.Put(c.parts...), c.want)
	}
}

func TestPutOfEachSize(t *testing.T) {
	whole := []byte{1, 2, 3, 4, 5, 6, 7, 8}
	for size := 1; size <= 8; size++ {
		got := octet.Put(octet.Part{X: 0x0102030405060708, Size: size})
		same(t, fmt.Sprint("size ", size), got, whole[8-size:])
	}
}

func TestPutOfWrongSizes(t *testing.T) {
	for _, size := range []int{math.MinInt, -8, -1, 0, 9, 10, 16, 64, 256, 257, math.MaxInt} {
		what := fmt.Sprint("size ", size)
		same(t, what, octet.Put(octet.Part{X: all, Size: size}), nil)
		same(t, what+", between others", octet.Put(octet.Part{X: 7, Size: 1}, octet.Part{X: all, Size: size}, octet.Part{X: 9, Size: 2}), []byte{7, 0, 9})
	}
}

func TestPutLeavesItsParts(t *testing.T) {
	parts := []octet.Part{{258, 2}, {5, 9}}
	first := octet.Put(parts...)
	if parts[0] != (octet.Part{X: 258, Size: 2}) || parts[1] != (octet.Part{X: 5, Size: 9}) {
		t.Error("changed:", parts)
	}
	first[0] = 77
	same(t, "again", octet.Put(parts...), []byte{1, 2})
}

// P1.2

func TestCutAtFirst(t *testing.T) {
	stands(t, "three bytes", octet.New([]byte{1, 2, 3}), 3, api.OK)
	stands(t, "no bytes", octet.New([]byte{}), 0, api.OK)
	stands(t, "nil", octet.New(nil), 0, api.OK)
}

func TestNumOfEachSize(t *testing.T) {
	b := []byte{1, 2, 3, 4, 5, 6, 7, 8, 9}
	for size := 1; size <= 8; size++ {
		c := octet.New(b)
		want := uint64(0x0102030405060708) >> (8 * (8 - size))
		if got := c.Num(size); got != want {
			t.Errorf("size %d: %x, not %x", size, got, want)
		}
		stands(t, fmt.Sprint("size ", size), c, 9-size, api.OK)
		if got := c.Num(1); got != uint64(size+1) {
			t.Errorf("behind size %d: %d", size, got)
		}
	}
	if got := octet.New(bytes.Repeat([]byte{255}, 8)).Num(8); got != all {
		t.Errorf("all bits: %x", got)
	}
}

func TestNumOfWrongSizes(t *testing.T) {
	for _, size := range []int{math.MinInt, -1, 0, 9, 16, 256, 257, math.MaxInt} {
		// with enough bytes, and with none, which would be ErrShort if the size were asked for behind that
		for _, n := range []int{20, 0} {
			c := octet.New(make([]byte, n))
			if got := c.Num(size); got != 0 {
				t.Errorf("size %d: %d", size, got)
			}
			stands(t, fmt.Sprint("size ", size), c, n, api.ErrArg)
		}
	}
}

func TestNumTooShort(t *testing.T) {
	for size := 1; size <= 8; size++ {
		c := octet.New(bytes.Repeat([]byte{255}, size-1))
		if got := c.Num(size); got != 0 {
			t.Errorf("size %d: %d", size, got)
		}
		stands(t, fmt.Sprint("size ", size), c, size-1, api.ErrShort)
		c = octet.New(bytes.Repeat([]byte{255}, size))
		if c.Num(size) == 0 {
			t.Errorf("size %d of as many", size)
		}
		stands(t, "just as many", c, 0, api.OK)
	}
}

func TestBytes(t *testing.T) {
	c := octet.New([]byte{1, 2, 3, 4, 5})
	same(t, "none", c.Bytes(0), nil)
	stands(t, "none", c, 5, api.OK)
	same(t, "two", c.Bytes(2), []byte{1, 2})
	stands(t, "two", c, 3, api.OK)
	same(t, "all that are left", c.Bytes(3), []byte{3, 4, 5})
	stands(t, "all that are left", c, 0, api.OK)
	same(t, "none of none", c.Bytes(0), nil)
	stands(t, "none of none", c, 0, api.OK)
	same(t, "one of none", c.Bytes(1), nil)
	stands(t, "one of none", c, 0, api.ErrShort)
}

func TestBytesOfMoreThanANumberMayHave(t *testing.T) {
	c := octet.New(bytes.Repeat([]byte{3}, 300))
	same(t, "257", c.Bytes(257), bytes.Repeat([]byte{3}, 257))
	stands(t, "257", c, 43, api.OK)
}

func TestBytesOfWrongNumbers(t *testing.T) {
	for _, n := range []int{-1, -2, math.MinInt} {
		c := octet.New([]byte{1, 2})
		same(t, fmt.Sprint(n), c.Bytes(n), nil)
		stands(t, fmt.Sprint(n), c, 2, api.ErrArg)
	}
	for _, n := range []int{3, 4, math.MaxInt} {
		c := octet.New([]byte{1, 2})
		same(t, fmt.Sprint(n), c.Bytes(n), nil)
		stands(t, fmt.Sprint(n), c, 2, api.ErrShort)
	}
}

func TestOnceSomethingWentWrong(t *testing.T) {
	wrong := []struct {
		what string
		do   func(c *octet.Cut)
		e    api.Errno
	}{
		{"Num of no size", func(c *octet.Cut) { c.Num(0) }, api.ErrArg},
		{"Num of too few", func(c *octet.Cut) { c.Num(4) }, api.ErrShort},
		{"Bytes below 0", func(c *octet.Cut) { c.Bytes(-1) }, api.ErrArg},
		{"Bytes of too few", func(c *octet.Cut) { c.Bytes(4) }, api.ErrShort},
	}
	for _, first := range wrong {
		for _, second := range wrong {
			c := octet.New([]byte{9, 1, 2, 3})
			c.Num(1)
			first.do(c)
			what := first.what + ", " + second.what
			stands(t, what, c, 3, first.e)
			second.do(c)
			if got := c.Num(1); got != 0 {
				t.Errorf("%s: then Num: %d", what, got)
			}
			same(t, what+": then Bytes", c.Bytes(2), nil)
			same(t, what+": then no Bytes", c.Bytes(0), nil)
			stands(t, what+": at the end", c, 3, first.e)
		}
	}
}

func TestBytesAreNewMemory(t *testing.T) {
	b := []byte{1, 2, 3, 4}
	c := octet.New(b)
	got := c.Bytes(2)
	got[0], got[1] = 77, 77
	_ = append(got, 88, 88)
	same(t, "what was handed in", b, []byte{1, 2, 3, 4})
	same(t, "what is left", c.Bytes(2), []byte{3, 4})
}

// A copy of a cut has the same bytes left: what one of them told isn't the other one's.
func TestBytesOfACopiedCut(t *testing.T) {
	c := octet.New([]byte{1, 2, 3})
	d := *c
	got := c.Bytes(2)
	got[0], got[1] = 77, 77
	same(t, "the copy's", d.Bytes(2), []byte{1, 2})
}

func TestNewKeepsNothingOfItsCaller(t *testing.T) {
	b := []byte{1, 2, 3, 4}
	c := octet.New(b)
	b[0], b[2] = 77, 77
	if got := c.Num(2); got != 258 {
		t.Error("Num:", got)
	}
	b[3] = 77
	same(t, "Bytes", c.Bytes(2), []byte{3, 4})
}

func TestCutsOfTheSameBytes(t *testing.T) {
	b := []byte{1, 2}
	c, d := octet.New(b), octet.New(b)
	c.Num(1)
	c.Num(9)
	stands(t, "the first one", c, 1, api.ErrArg)
	stands(t, "the other one", d, 2, api.OK)
}

func TestNilCut(t *testing.T) {
	var c *octet.Cut
	for _, n := range []int{-1, 0, 1, 8, 9} {
		if got := c.Num(n); got != 0 {
			t.Errorf("Num of %d: %d", n, got)
		}
		same(t, fmt.Sprint("Bytes of ", n), c.Bytes(n), nil)
		stands(t, "nil", c, 0, api.ErrArg)
	}
}

// P1.3

func TestWhatIsPutIsTaken(t *testing.T) {
	var parts []octet.Part
	for size := 1; size <= 8; size++ {
		for bit := range 8 * size {
			one := uint64(1) << bit
			for _, x := range []uint64{one, one - 1, one | 1, uint64(all) >> (63 - bit)} {
				parts = append(parts, octet.Part{X: x, Size: size})
			}
		}
	}
	c := octet.New(octet.Put(parts...))
	for i, p := range parts {
		if got := c.Num(p.Size); got != p.X {
			t.Errorf("part %d, of size %d: %x, not %x", i, p.Size, got, p.X)
		}
	}
	stands(t, "at the end", c, 0, api.OK)
}

func TestWhatIsPutIsTakenAmongBytes(t *testing.T) {
	for size := 1; size <= 8; size++ {
		x := uint64(0xf1e2d3c4b5a69788) >> (8 * (8 - size))
		b := append([]byte("ab"), octet.Put(octet.Part{X: x, Size: size})...)
		c := octet.New(append(b, 'c'))
		same(t, "ahead", c.Bytes(2), []byte("ab"))
		if got := c.Num(size); got != x {
			t.Errorf("size %d: %x, not %x", size, got, x)
		}
		same(t, "behind", c.Bytes(1), []byte("c"))
		stands(t, "at the end", c, 0, api.OK)
	}
}

// A number that doesn't fit comes back as its lowest bytes.
func TestWhatDoesNotFit(t *testing.T) {
	for size := 1; size < 8; size++ {
		low := uint64(1)<<(8*size) - 1
		for _, x := range []uint64{low + 1, low + 6, all} {
			c := octet.New(octet.Put(octet.Part{X: x, Size: size}))
			if got := c.Num(size); got != x&low {
				t.Errorf("%x of size %d: %x", x, size, got)
			}
			stands(t, "at the end", c, 0, api.OK)
		}
	}
}

func ExamplePut() {
	fmt.Println(octet.Put(octet.Part{X: 258, Size: 2}, octet.Part{X: 5, Size: 1}))
	// Output: [1 2 5]
}

func ExampleCut() {
	c := octet.New([]byte{1, 2, 5})
	fmt.Println(c.Num(2), c.Bytes(1), c.Left(), c.Err() == api.OK)
	fmt.Println(c.Num(1), c.Err() == api.ErrShort)
	// Output:
	// 258 [5] 0 true
	// 0 true
}
