package serial_test

import (
	"fmt"
	"math"
	"testing"

	"louver/serial"
)

const (
	round16  = int64(1) << 16
	round32  = int64(1) << 32
	farthest = int64(1) << 40 // what a last may be, and, below 0, the lowest
)

// far is how far it is from a to b, as the chapter's words tell it.
func far(a, b, round int64) int64 {
	d := b - a
	if d < -round/2 {
		d += round
	}
	if d >= round/2 {
		d -= round
	}
	return d
}

// rest is x's rest by round, 0 at least.
func rest(x, round int64) int64 { return (x%round + round) % round }

// edges are numbers from 0 to round where something might go wrong.
func edges(round int64) []int64 {
	var list []int64
	for _, at := range []int64{0, 1 << 8, round / 4, round / 2, round / 4 * 3, round, 0x1234} {
		for d := int64(-2); d <= 2; d++ {
			list = append(list, rest(at+d, round))
		}
	}
	return list
}

// lasts are numbers that go on, from the lowest that may be to the highest.
func lasts(round int64) []int64 {
	list := []int64{-farthest, -farthest + 1, farthest - 1, farthest}
	for _, times := range []int64{-200, -3, -2, -1, 0, 1, 2, 7, 200} {
		for _, e := range edges(round) {
			list = append(list, times*round+e)
		}
	}
	return list
}

// P2.1

func TestFrom16(t *testing.T) {
	for _, c := range []struct {
		a, b uint16
		want int
	}{
		{65535, 2, 3}, // the chapter's
		{2, 65535, -3},
		{0, 0, 0},
		{65535, 65535, 0},
		{0, 1, 1},
		{1, 0, -1},
		{100, 250, 150},
		{250, 100, -150},
		{65535, 0, 1},
		{0, 65535, -1},
		{0, 32767, 32767},
		{32767, 0, -32767},
		{0, 32768, -32768}, // half of the way round is below 0, both ways
		{32768, 0, -32768},
		{0, 32769, -32767},
		{32769, 0, 32767},
		{32767, 65535, -32768},
		{65535, 32767, -32768},
		{65535, 32766, 32767},
	} {
		if got := serial.From16(c.a, c.b); got != c.want {
			t.Errorf("from %d to %d: %d, not %d", c.a, c.b, got, c.want)
		}
		if got := serial.Less16(c.a, c.b); got != (c.want > 0) {
			t.Errorf("%d less than %d: %v", c.a, c.b, got)
		}
	}
}

func TestFrom32(t *testing.T) {
	for _, c := range []struct {
		a, b uint32
		want int
	}{
		{4294967295, 2, 3},
		{2, 4294967295, -3},
		{0, 0, 0},
		{4294967295, 4294967295, 0},
		{0, 1, 1},
		{1, 0, -1},
		{100, 70000, 69900},
		{70000, 100, -69900},
		{65535, 2, -65533}, // it goes round at 32 bits, not at 16
		{0, 65536, 65536},
		{4294967295, 0, 1},
		{0, 4294967295, -1},
		{0, 2147483647, 2147483647},
		{2147483647, 0, -2147483647},
		{0, 2147483648, -2147483648}, // half of the way round is below 0, both ways
		{2147483648, 0, -2147483648},
		{0, 2147483649, -2147483647},
		{2147483649, 0, 2147483647},
		{2147483647, 4294967295, -2147483648},
		{4294967295, 2147483647, -2147483648},
		{4294967295, 2147483646, 2147483647},
	} {
		if got := serial.From32(c.a, c.b); got != c.want {
			t.Errorf("from %d to %d: %d, not %d", c.a, c.b, got, c.want)
		}
		if got := serial.Less32(c.a, c.b); got != (c.want > 0) {
			t.Errorf("%d less than %d: %v", c.a, c.b, got)
		}
	}
}

func TestFrom16ToEachNumber(t *testing.T) {
	for _, a := range edges(round16) {
		for b := range round16 {
			want := far(a, b, round16)
			if got := serial.From16(uint16(a), uint16(b)); int64(got) != want {
				t.Fatalf("from %d to %d: %d, not %d", a, b, got, want)
			}
			if got := serial.Less16(uint16(a), uint16(b)); got != (want > 0) {
				t.Fatalf("%d less than %d: %v", a, b, got)
			}
		}
	}
}

func TestFrom32BetweenEdges(t *testing.T) {
	for _, a := range edges(round32) {
		for _, b := range edges(round32) {
			want := far(a, b, round32)
			if got := serial.From32(uint32(a), uint32(b)); int64(got) != want {
				t.Errorf("from %d to %d: %d, not %d", a, b, got, want)
			}
			if got := serial.Less32(uint32(a), uint32(b)); got != (want > 0) {
				t.Errorf("%d less than %d: %v", a, b, got)
			}
		}
	}
}

// P2.2

func TestNear16(t *testing.T) {
	for _, c := range []struct {
		last int64
		x    uint16
		want int64
	}{
		{65535, 2, 65538}, // the chapter's
		{0, 0, 0},
		{0, 5, 5},
		{0, 65535, -1},
		{-1, 0, 0},
		{-1, 65535, -1},
		{-1, 65534, -2},
		{-65536, 3, -65533},
		{-65537, 0, -65536},
		{65538, 65535, 65535},
		{0, 32767, 32767},
		{0, 32768, -32768}, // half of the way round is behind
		{0, 32769, -32767},
		{-1, 32766, 32766},
		{-1, 32767, -32769},
		{65536, 32768, 32768},
		{farthest, 0, farthest},
		{farthest, 1, farthest + 1},
		{farthest, 65535, farthest - 1},
		{farthest, 32767, farthest + 32767},
		{farthest, 32768, farthest - 32768},
		{-farthest, 0, -farthest},
		{-farthest, 1, -farthest + 1},
		{-farthest, 65535, -farthest - 1},
		{-farthest, 32767, -farthest + 32767},
		{-farthest, 32768, -farthest - 32768},
	} {
		if got := serial.Near16(c.last, c.x); got != c.want {
			t.Errorf("%d, near %d: %d, not %d", c.x, c.last, got, c.want)
		}
	}
}

func TestNear32(t *testing.T) {
	for _, c := range []struct {
		last int64
		x    uint32
		want int64
	}{
		{4294967295, 2, 4294967298},
		{0, 0, 0},
		{0, 70000, 70000},
		{65535, 2, 2}, // it goes round at 32 bits, not at 16
		{0, 4294967295, -1},
		{-1, 0, 0},
		{-1, 4294967295, -1},
		{-1, 4294967294, -2},
		{-4294967296, 3, -4294967293},
		{-4294967297, 0, -4294967296},
		{4294967298, 4294967295, 4294967295},
		{0, 2147483647, 2147483647},
		{0, 2147483648, -2147483648}, // half of the way round is behind
		{0, 2147483649, -2147483647},
		{-1, 2147483646, 2147483646},
		{-1, 2147483647, -2147483649},
		{4294967296, 2147483648, 2147483648},
		{farthest, 0, farthest},
		{farthest, 1, farthest + 1},
		{farthest, 4294967295, farthest - 1},
		{farthest, 2147483647, farthest + 2147483647},
		{farthest, 2147483648, farthest - 2147483648},
		{-farthest, 0, -farthest},
		{-farthest, 1, -farthest + 1},
		{-farthest, 4294967295, -farthest - 1},
		{-farthest, 2147483647, -farthest + 2147483647},
		{-farthest, 2147483648, -farthest - 2147483648},
	} {
		if got := serial.Near32(c.last, c.x); got != c.want {
			t.Errorf("%d, near %d: %d, not %d", c.x, c.last, got, c.want)
		}
	}
}

// near tells what is wrong with a number that is to be x, and near last; nothing, if it is so.
func near(last, x, got, round int64) string {
	if rest(got, round) != x {
		return fmt.Sprintf("%d, near %d: %d is another one", x, last, got)
	}
	if want := far(rest(last, round), x, round); got-last != want {
		return fmt.Sprintf("%d, near %d: %d is %d away, not %d", x, last, got, got-last, want)
	}
	return ""
}

func TestNear16OfMany(t *testing.T) {
	for _, last := range lasts(round16) {
		for _, x := range edges(round16) {
			if s := near(last, x, serial.Near16(last, uint16(x)), round16); s != "" {
				t.Error(s)
			}
		}
	}
	for _, last := range []int64{-farthest, -70000, -1, 0, 70000, farthest} {
		for x := range round16 {
			if s := near(last, x, serial.Near16(last, uint16(x)), round16); s != "" {
				t.Fatal(s)
			}
		}
	}
}

func TestNear32OfMany(t *testing.T) {
	for _, last := range lasts(round32) {
		for _, x := range edges(round32) {
			if s := near(last, x, serial.Near32(last, uint32(x)), round32); s != "" {
				t.Error(s)
			}
		}
	}
}

// A last that may not be has some answer, the same one each time.
func TestNearOfALastThatMayNotBe(t *testing.T) {
	for _, last := range []int64{math.MinInt64, math.MinInt64 + 1, -farthest - 1, farthest + 1, math.MaxInt64 - 1, math.MaxInt64} {
		for _, x := range edges(round32) {
			if serial.Near16(last, uint16(x)) != serial.Near16(last, uint16(x)) || serial.Near32(last, uint32(x)) != serial.Near32(last, uint32(x)) {
				t.Errorf("%d, near %d: two answers", x, last)
			}
		}
	}
}

// P2.3

// ahead tells what is wrong with which of a and b is ahead; nothing, if it is so.
func ahead(a, b, round int64, ab, ba bool) string {
	d := rest(b-a, round)
	if d == 0 || d == round/2 {
		if ab || ba {
			return fmt.Sprintf("%d and %d: one is ahead", a, b)
		}
		return ""
	}
	if ab == ba {
		return fmt.Sprintf("%d and %d: not just one is ahead", a, b)
	}
	return ""
}

func TestJustOneIsAhead16(t *testing.T) {
	for _, a := range edges(round16) {
		for b := range round16 {
			x, y := uint16(a), uint16(b)
			if s := ahead(a, b, round16, serial.Less16(x, y), serial.Less16(y, x)); s != "" {
				t.Fatal(s)
			}
		}
	}
}

func TestJustOneIsAhead32(t *testing.T) {
	for _, a := range edges(round32) {
		for _, b := range edges(round32) {
			x, y := uint32(a), uint32(b)
			if s := ahead(a, b, round32, serial.Less32(x, y), serial.Less32(y, x)); s != "" {
				t.Error(s)
			}
		}
	}
}

// ways are how far something may go each time, by less than half of the way round.
func ways(round int64) [][]int64 {
	half := round/2 - 1
	return [][]int64{
		{1},
		{-1},
		{0, 1, 2},
		{half},
		{-half},
		{half, -half, half, half},
		{-half, 1, -half, 2, -half, half},
		{half / 2, -1, half / 3, 0},
	}
}

// follow goes on in ways, and tells where the number that is followed is lost.
func follow(t *testing.T, round int64, next func(last, at int64) int64) {
	t.Helper()
	for _, way := range ways(round) {
		for _, first := range []int64{0, round - 1, -1, -3*round - 5} {
			at, last := first, first
			for i := range 240 { // 240 times half of 32 bits stay within 2^40
				at += way[i%len(way)]
				last = next(last, at)
				if last != at {
					t.Fatalf("ways %v, from %d on, time %d: %d, not %d", way, first, i, last, at)
				}
			}
		}
	}
}

func TestWhatGoesOnIsFollowed(t *testing.T) {
	follow(t, round16, func(last, at int64) int64 {
		return serial.Near16(last, uint16(rest(at, round16)))
	})
	follow(t, round32, func(last, at int64) int64 {
		return serial.Near32(last, uint32(rest(at, round32)))
	})
}

func ExampleFrom16() {
	fmt.Println(serial.From16(65535, 2), serial.Less16(65535, 2))
	// Output: 3 true
}

func ExampleNear16() {
	fmt.Println(serial.Near16(65535, 2))
	// Output: 65538
}
