package req_test

import (
	"bytes"
	"fmt"
	"math"
	"math/rand/v2"
	"slices"
	"testing"

	"louver/api"
	"louver/delta"
	"louver/req"
)

const (
	topId   = uint64(math.MaxUint64)
	topSSRC = uint32(math.MaxUint32)
)

// ids are numbers of requests: the lowest, the highest, and such as have bits in each byte.
var ids = []uint64{0, 1, 5, 255, 256, 65535, 65536, 1 << 24, 1 << 31, 1<<32 - 1, 1 << 32, 1 << 40, 1 << 48, 1 << 56, 1 << 63, 0x0102030405060708, topId - 1, topId}

// far are numbers that go into no such bytes, many of which have lower bytes that would go.
var far = []int{
	math.MinInt, math.MinInt + 1, math.MinInt + 5, math.MinInt64 / 2, -1 << 33, -1<<32 + 1, -1 << 32, math.MinInt32, -1<<31 + 5,
	-1 << 24, -65537, -65536, -65535, -32768, -300, -257, -256, -255, -254, -251, -128, -16, -10, -9, -8, -3, -2, -1,
	65536, 65537, 65541, 65545, 1<<16 + 255, 1 << 17, 1 << 24, 1<<24 + 5, math.MaxInt32, math.MaxInt32 + 1, math.MaxUint32, 1 << 32, 1<<32 + 1, 1<<32 + 9, 1<<40 + 5, 1 << 48, 1 << 56,
	1<<62 + 1, math.MaxInt - 1, math.MaxInt,
}

// names and highest are of a request's numbers, in the order of the bytes.
var (
	names   = []string{"Kind", "Who", "Room", "Rights", "Track", "Layer", "Tid"}
	highest = []int{9, 65535, 255, 255, 65535, 255, 255}
)

// place is where a request has one of its numbers.
func place(q *delta.Req, which int) *int {
	return []*int{&q.Kind, &q.Who, &q.Room, &q.Rights, &q.Track, &q.Layer, &q.Tid}[which]
}

// with is a request of which one number is another one.
func with(q delta.Req, which, n int) delta.Req {
	*place(&q, which) = n
	return q
}

// row are so many SSRCs, of which no two have one byte the same at one place, as far as may be.
func row(many int) []uint32 {
	var l []uint32
	for i := range many {
		n := uint32(i)
		l = append(l, (n+1)<<24|(n+50)&255<<16|(n+100)&255<<8|(n+150)&255)
	}
	return l
}

// mixed is a request of whose numbers no two have a byte the same.
func mixed(ssrcs ...uint32) delta.Req {
	return delta.Req{Kind: 5, Who: 0x1112, Room: 0x21, Rights: 0x31, Track: 0x4142, Layer: 0x51, Tid: 0x61, SSRCs: ssrcs}
}

// top is a request of all the highest numbers.
func top(ssrcs ...uint32) delta.Req {
	return delta.Req{Kind: 9, Who: 65535, Room: 255, Rights: 255, Track: 65535, Layer: 255, Tid: 255, SSRCs: ssrcs}
}

// some are requests of all kinds.
func some() []delta.Req {
	return []delta.Req{{}, mixed(), mixed(7), top(), top(row(3)...), top(slices.Repeat([]uint32{topSSRC}, 255)...), {SSRCs: []uint32{0, 0}}}
}

// P19.1, of Put

// Each byte at its place.
func TestPut(t *testing.T) {
	puts(t, 0, delta.Req{}, 0, 0, 0, 0, 0, 0, 0, 0, 0, 0, 0, 0, 0, 0, 0, 0, 0, 0)
	puts(t, 0, delta.Req{SSRCs: []uint32{}}, 0, 0, 0, 0, 0, 0, 0, 0, 0, 0, 0, 0, 0, 0, 0, 0, 0, 0)
	puts(t, 0x0102030405060708, mixed(),
		1, 2, 3, 4, 5, 6, 7, 8, 5, 0x11, 0x12, 0x21, 0x31, 0x41, 0x42, 0x51, 0x61, 0)
	puts(t, 0x0102030405060708, mixed(0x71727374),
		1, 2, 3, 4, 5, 6, 7, 8, 5, 0x11, 0x12, 0x21, 0x31, 0x41, 0x42, 0x51, 0x61, 1, 0x71, 0x72, 0x73, 0x74)
	puts(t, 5, mixed(0x71727374, 1, 0x81828384),
		0, 0, 0, 0, 0, 0, 0, 5, 5, 0x11, 0x12, 0x21, 0x31, 0x41, 0x42, 0x51, 0x61, 3, 0x71, 0x72, 0x73, 0x74, 0, 0, 0, 1, 0x81, 0x82, 0x83, 0x84)
	puts(t, topId, top(0, topSSRC),
		255, 255, 255, 255, 255, 255, 255, 255, 9, 255, 255, 255, 255, 255, 255, 255, 255, 2, 0, 0, 0, 0, 255, 255, 255, 255)
	puts(t, 1, delta.Req{Kind: delta.Join, Who: 999, Room: 9, Rights: 3},
		0, 0, 0, 0, 0, 0, 0, 1, 0, 3, 231, 9, 3, 0, 0, 0, 0, 0)
	puts(t, 258, delta.Req{Kind: delta.Publish, Who: 1, Track: 999, SSRCs: []uint32{70, 2147483647}},
		0, 0, 0, 0, 0, 0, 1, 2, 2, 0, 1, 0, 0, 3, 231, 0, 0, 2, 0, 0, 0, 70, 127, 255, 255, 255)
}

// One number alone changes just its own bytes.
func TestPutOfEachNumberAlone(t *testing.T) {
	at := []int{8, 9, 11, 12, 13, 15, 16}
	for which, high := range highest {
		for _, n := range []int{1, high} {
			want := make([]byte, headSize)
			want[at[which]] = byte(n)
			if high > 255 {
				want[at[which]], want[at[which]+1] = byte(n>>8), byte(n)
			}
			puts(t, 0, with(delta.Req{}, which, n), want...)
		}
	}
	for bit := range 64 {
		want := make([]byte, headSize)
		want[7-bit/8] = 1 << (bit % 8)
		puts(t, 1<<bit, delta.Req{}, want...)
	}
	for bit := range 32 {
		want := make([]byte, headSize+4)
		want[17] = 1
		want[headSize+3-bit/8] = 1 << (bit % 8)
		puts(t, 0, delta.Req{SSRCs: []uint32{1 << bit}}, want...)
	}
}

// edge puts a request of which one number is another one: it goes, where it goes into its bytes.
func edge(t *testing.T, id uint64, q delta.Req, which, n int) {
	t.Helper()
	q = with(q, which, n)
	if n >= 0 && n <= highest[which] {
		both(t, id, q)
	} else {
		putFails(t, id, q)
	}
}

func TestPutAtTheEdges(t *testing.T) {
	for which := range names {
		for _, q := range some() {
			for _, id := range ids {
				for _, n := range []int{-1, 0, 1, 9, 10, 255, 256, 257, 65535, 65536, 65537} {
					edge(t, id, q, which, n)
				}
			}
		}
	}
}

func TestPutOfEachNumber(t *testing.T) {
	for which := range names {
		for n := -700; n <= 66500; n++ {
			edge(t, 5, mixed(7), which, n)
		}
	}
}

// However far a number is from what goes, and whichever of its lower bytes would go: ErrArg.
func TestPutOfNumbersThatAreFarBeyond(t *testing.T) {
	for which, name := range names {
		for _, q := range some() {
			for _, n := range far {
				if n >= 0 && n <= highest[which] {
					t.Fatalf("%s %d goes", name, n)
				}
				putFails(t, 5, with(q, which, n))
			}
			for bit := 16; bit < 64; bit++ {
				for low := range 10 {
					putFails(t, 5, with(q, which, int(uint64(1)<<bit)|low))
				}
			}
		}
	}
}

// Two numbers of which neither goes, and each of which goes.
func TestPutOfTwoNumbersAtTheEdges(t *testing.T) {
	for a, highA := range highest {
		for b, highB := range highest {
			if a == b {
				continue
			}
			for _, x := range []int{-1, 0, highA, highA + 1} {
				for _, y := range []int{-1, 0, highB, highB + 1} {
					edge(t, 5, with(top(1), a, 0), b, y)
					q := with(with(mixed(1), a, x), b, y)
					if x >= 0 && x <= highA && y >= 0 && y <= highB {
						both(t, 5, q)
					} else {
						putFails(t, 5, q)
					}
				}
			}
		}
	}
}

// All Kinds take all numbers that go: whether a request may be done is not asked here.
func TestPutOfEachKind(t *testing.T) {
	for kind, want := range []int{delta.Join, delta.Leave, delta.Publish, delta.Unpublish, delta.Replace, delta.Subscribe, delta.Unsubscribe, delta.Mute, delta.Unmute, delta.Select} {
		if kind != want {
			t.Fatalf("Kind %d is %d", kind, want)
		}
		for _, q := range some() {
			if b := both(t, 5, with(q, 0, kind)); b[8] != byte(kind) {
				t.Errorf("Kind %d: %v", kind, b)
			}
		}
	}
}

func TestPutOfHowManySSRCs(t *testing.T) {
	for many := range 520 {
		q := mixed(row(many)...)
		if many > 255 {
			putFails(t, 5, q)
			putFails(t, 5, delta.Req{SSRCs: make([]uint32, many)})
			continue
		}
		b := both(t, 5, q)
		if len(b) != headSize+4*many || b[17] != byte(many) {
			t.Errorf("%d SSRCs: %d bytes, of which one tells %d", many, len(b), b[17])
		}
		both(t, 0, delta.Req{SSRCs: make([]uint32, many)})
	}
	for _, many := range []int{511, 512, 513, 767, 768, 1024, 1500, 65535, 65536, 65537, 65791, 65792, 1 << 20} {
		putFails(t, 5, mixed(make([]uint32, many)...))
	}
	both(t, topId, top(slices.Repeat([]uint32{topSSRC}, 255)...))
	putFails(t, topId, top(slices.Repeat([]uint32{topSSRC}, 256)...))
}

// A request that has too many SSRCs and a number that doesn't go is one error.
func TestPutOfTooManySSRCsAndWrongNumbers(t *testing.T) {
	for which, high := range highest {
		for _, n := range []int{-1, high + 1} {
			putFails(t, 5, with(mixed(row(256)...), which, n))
		}
	}
}

// Any SSRCs go: also none that a track may have, and the same ones.
func TestPutOfSSRCs(t *testing.T) {
	edges := []uint32{0, 1, 255, 256, 65535, 65536, 1 << 24, 2147483647, api.Own, 0x01020304, topSSRC - 1, topSSRC}
	for _, a := range edges {
		puts(t, 0, delta.Req{SSRCs: []uint32{a}}, append(make([]byte, 17), 1, byte(a>>24), byte(a>>16), byte(a>>8), byte(a))...)
		for _, b := range edges {
			both(t, 5, mixed(a, b))
			both(t, 5, mixed(b, a, b))
		}
	}
	for i := range 255 {
		for _, ssrc := range []uint32{1, topSSRC} {
			l := make([]uint32, 255)
			l[i] = ssrc
			both(t, 5, mixed(l...))
		}
	}
}

func TestPutOfEachId(t *testing.T) {
	for _, id := range ids {
		for _, q := range some() {
			both(t, id, q)
		}
	}
}

// P19.1, of Parse

// bytesOf is a request's bytes.
func bytesOf(t *testing.T, id uint64, q delta.Req) []byte {
	t.Helper()
	b, err := plainPut(id, q)
	if err != api.OK {
		t.Fatalf("%+v: error %d", q, err)
	}
	return b
}

// changed are bytes of which one is another one.
func changed(b []byte, at int, x byte) []byte {
	b = slices.Clone(b)
	b[at] = x
	return b
}

func TestParse(t *testing.T) {
	parses(t, make([]byte, headSize), 0, delta.Req{})
	parses(t, []byte{1, 2, 3, 4, 5, 6, 7, 8, 5, 0x11, 0x12, 0x21, 0x31, 0x41, 0x42, 0x51, 0x61, 0},
		0x0102030405060708, mixed())
	parses(t, []byte{0, 0, 0, 0, 0, 0, 0, 5, 5, 0x11, 0x12, 0x21, 0x31, 0x41, 0x42, 0x51, 0x61, 2, 0x71, 0x72, 0x73, 0x74, 0, 0, 0, 1},
		5, mixed(0x71727374, 1))
	parses(t, []byte{255, 255, 255, 255, 255, 255, 255, 255, 9, 255, 255, 255, 255, 255, 255, 255, 255, 1, 255, 255, 255, 255},
		topId, top(topSSRC))
}

func TestParseOfNothing(t *testing.T) {
	parseFails(t, api.ErrShort, nil)
	parseFails(t, api.ErrShort, []byte{})
}

// manys are numbers of SSRCs.
var manys = []int{0, 1, 2, 3, 15, 16, 127, 128, 254, 255}

func TestParseOfWhatIsCut(t *testing.T) {
	for _, many := range manys {
		for _, q := range []delta.Req{{SSRCs: make([]uint32, many)}, mixed(row(many)...), top(slices.Repeat([]uint32{topSSRC}, many)...)} {
			b := bytesOf(t, 5, q)
			for end := range b {
				parseFails(t, api.ErrShort, b[:end])
			}
			parses(t, b, 5, q)
		}
	}
}

// Bytes of one kind alone, as many as there may be of them.
func TestParseOfEachLength(t *testing.T) {
	for _, x := range []byte{0, 1, 3, 9, 10, 127, 128, 255} {
		for length := range 1200 {
			b := bytes.Repeat([]byte{x}, length)
			end := headSize + 4*int(x)
			switch {
			case length < end:
				parseFails(t, api.ErrShort, b)
			case x > 9:
				parseFails(t, api.ErrForm, b)
			case length > end:
				parseFails(t, api.ErrLeft, b)
			default:
				read(t, b)
			}
		}
	}
}

func TestParseOfEachKind(t *testing.T) {
	for _, q := range some() {
		b := bytesOf(t, 5, q)
		for kind := range 256 {
			if kind <= 9 {
				parses(t, changed(b, 8, byte(kind)), 5, with(q, 0, kind))
			} else {
				parseFails(t, api.ErrForm, changed(b, 8, byte(kind)))
			}
		}
	}
}

// Each byte of a request's numbers, of each value, counts as much as its place tells.
func TestParseOfEachByte(t *testing.T) {
	b := bytesOf(t, 0x0102030405060708, mixed(0x71727374))
	for x := range 256 {
		for at := range 8 {
			low := 8 * (7 - at)
			id := uint64(0x0102030405060708)&^(255<<low) | uint64(x)<<low
			parses(t, changed(b, at, byte(x)), id, mixed(0x71727374))
		}
		for at, n := range map[int]func(q *delta.Req){
			9:  func(q *delta.Req) { q.Who = x<<8 | 0x12 },
			10: func(q *delta.Req) { q.Who = 0x1100 | x },
			11: func(q *delta.Req) { q.Room = x },
			12: func(q *delta.Req) { q.Rights = x },
			13: func(q *delta.Req) { q.Track = x<<8 | 0x42 },
			14: func(q *delta.Req) { q.Track = 0x4100 | x },
			15: func(q *delta.Req) { q.Layer = x },
			16: func(q *delta.Req) { q.Tid = x },
			18: func(q *delta.Req) { q.SSRCs[0] = uint32(x)<<24 | 0x727374 },
			19: func(q *delta.Req) { q.SSRCs[0] = 0x71007374 | uint32(x)<<16 },
			20: func(q *delta.Req) { q.SSRCs[0] = 0x71720074 | uint32(x)<<8 },
			21: func(q *delta.Req) { q.SSRCs[0] = 0x71727300 | uint32(x) },
		} {
			q := mixed(0x71727374)
			n(&q)
			parses(t, changed(b, at, byte(x)), 0x0102030405060708, q)
		}
	}
}

func TestParseOfWhatIsLeft(t *testing.T) {
	for _, many := range manys {
		b := bytesOf(t, 5, mixed(row(many)...))
		for left := 1; left <= 40; left++ {
			parseFails(t, api.ErrLeft, append(slices.Clone(b), make([]byte, left)...))
			parseFails(t, api.ErrLeft, append(slices.Clone(b), bytes.Repeat([]byte{255}, left)...))
		}
		for _, left := range []int{255, 256, 257, 1020, 1024, 1500, 65535, 65536, 1 << 20} {
			parseFails(t, api.ErrLeft, append(slices.Clone(b), make([]byte, left)...))
		}
		parseFails(t, api.ErrLeft, append(slices.Clone(b), b...))
		for x := range 256 {
			parseFails(t, api.ErrLeft, append(slices.Clone(b), byte(x)))
		}
	}
}

// Bytes that tell of more, or fewer, SSRCs than are behind.
func TestParseOfHowManySSRCs(t *testing.T) {
	for _, many := range manys {
		b := bytesOf(t, 5, mixed(row(many)...))
		for told := range 256 {
			switch c := changed(b, 17, byte(told)); {
			case told > many:
				parseFails(t, api.ErrShort, c)
			case told < many:
				parseFails(t, api.ErrLeft, c)
			default:
				parses(t, c, 5, mixed(row(many)...))
			}
		}
	}
}

// Where two things are wrong, what the chapter names first is told.
func TestParseOfTwoThingsThatAreWrong(t *testing.T) {
	for _, many := range manys {
		b := bytesOf(t, 5, mixed(row(many)...))
		for _, kind := range []byte{10, 11, 99, 127, 128, 254, 255} {
			c := changed(b, 8, kind)
			for end := range c {
				parseFails(t, api.ErrShort, c[:end])
			}
			parseFails(t, api.ErrForm, c)
			for left := 1; left <= 20; left++ {
				parseFails(t, api.ErrForm, append(slices.Clone(c), make([]byte, left)...))
			}
			parseFails(t, api.ErrForm, append(slices.Clone(c), b...))
			for told := range 256 {
				if d := changed(c, 17, byte(told)); told > many {
					parseFails(t, api.ErrShort, d)
				} else {
					parseFails(t, api.ErrForm, d)
				}
			}
		}
	}
}

// P19.2

func TestAnswer(t *testing.T) {
	for _, e := range []api.Errno{api.OK, api.ErrArg, api.ErrShort, api.ErrForm, api.ErrLeft, api.ErrBig, api.ErrFull, api.ErrNone, api.ErrTwice, api.ErrState, api.ErrRight, api.ErrQuota, api.ErrStale} {
		for _, id := range ids {
			answers(t, id, e, byte(e))
		}
	}
	for _, c := range []struct {
		id   uint64
		e    api.Errno
		want []byte
	}{
		{0, api.OK, []byte{0, 0, 0, 0, 0, 0, 0, 0, 0}},
		{5, api.ErrNone, []byte{0, 0, 0, 0, 0, 0, 0, 5, 21}}, // the chapter's
		{0x0102030405060708, api.ErrStale, []byte{1, 2, 3, 4, 5, 6, 7, 8, 26}},
		{topId, 255, []byte{255, 255, 255, 255, 255, 255, 255, 255, 255}},
		{topId, 256, []byte{255, 255, 255, 255, 255, 255, 255, 255, 0}},
		{0, -1, []byte{0, 0, 0, 0, 0, 0, 0, 0, 255}},
	} {
		if b := answers(t, c.id, c.e, c.want[8]); !bytes.Equal(b, c.want) {
			t.Errorf("Answer of %d, %d: %v, not %v", c.id, int(c.e), b, c.want)
		}
	}
}

func TestAnswerOfEachRest(t *testing.T) {
	for _, id := range []uint64{0, 5, topId} {
		for rest := range 256 {
			for _, turn := range []int{-1 << 40, -1 << 32, -65536, -512, -256, 0, 256, 512, 65536, 1 << 31, 1 << 32, 1 << 40, math.MinInt, math.MaxInt - 255} {
				answers(t, id, api.Errno(turn+rest), byte(rest))
			}
		}
	}
	for e := -3000; e <= 3000; e++ {
		answers(t, 5, api.Errno(e), byte(((e%256)+256)%256))
	}
	for e, rest := range map[int]byte{-1: 255, -2: 254, -255: 1, -256: 0, -257: 255, 255: 255, 256: 0, 257: 1, math.MaxInt: 255, math.MinInt: 0, math.MinInt + 1: 1} {
		answers(t, 5, api.Errno(e), rest)
	}
}

func TestTold(t *testing.T) {
	for length := range 21 {
		for _, x := range []byte{0, 1, 21, 128, 255} {
			id, e, is := tells(t, bytes.Repeat([]byte{x}, length))
			if length != 9 {
				if id != 0 || e != api.OK || is {
					t.Errorf("%d bytes %d: %d, %d, %v", length, x, id, e, is)
				}
				continue
			}
			if id != uint64(x)*0x0101010101010101 || e != api.Errno(x) || !is {
				t.Errorf("nine bytes %d: %d, %d, %v", x, id, e, is)
			}
		}
	}
	for _, length := range []int{256, 265, 512 + 9, 65536 + 9, 1 << 20} {
		if id, e, is := tells(t, bytes.Repeat([]byte{7}, length)); id != 0 || e != api.OK || is {
			t.Errorf("%d bytes: %d, %d, %v", length, id, e, is)
		}
	}
	if id, e, is := tells(t, nil); id != 0 || e != api.OK || is {
		t.Errorf("nothing: %d, %d, %v", id, e, is)
	}
}

// An answer that is cut, or has more behind, is none.
func TestToldOfWhatIsCut(t *testing.T) {
	b := req.Answer(topId, api.ErrStale)
	for end := range b {
		tells(t, b[:end])
	}
	if id, e, is := tells(t, b); id != topId || e != api.ErrStale || !is {
		t.Errorf("whole: %d, %d, %v", id, e, is)
	}
	for x := range 256 {
		if _, _, is := tells(t, append(slices.Clone(b), byte(x))); is {
			t.Errorf("with %d behind", x)
		}
	}
}

func TestToldOfEachByte(t *testing.T) {
	b := []byte{1, 2, 3, 4, 5, 6, 7, 8, 21}
	for x := range 256 {
		for at := range 8 {
			low := 8 * (7 - at)
			want := uint64(0x0102030405060708)&^(255<<low) | uint64(x)<<low
			if id, e, is := tells(t, changed(b, at, byte(x))); id != want || e != api.ErrNone || !is {
				t.Errorf("byte %d of %d: %d, %d, %v", at, x, id, e, is)
			}
		}
		if id, e, is := tells(t, changed(b, 8, byte(x))); id != 0x0102030405060708 || e != api.Errno(x) || !is {
			t.Errorf("error %d: %d, %d, %v", x, id, e, is)
		}
	}
}

// Nine bytes by chance are an answer, which tells them again.
func TestToldByChance(t *testing.T) {
	r := rand.New(rand.NewPCG(19, 1))
	for range 50000 {
		b := anyBytes(r, 9)
		id, e, is := tells(t, b)
		if again := answers(t, id, e, b[8]); !is || !bytes.Equal(again, b) {
			t.Fatalf("%v: %v, again %v", b, is, again)
		}
		tells(t, anyBytes(r, r.IntN(21)))
	}
}

// P19.3

func anyBytes(r *rand.Rand, many int) []byte {
	b := make([]byte, many)
	for i := range b {
		b[i] = byte(r.Uint32())
	}
	return b
}

// anyReq is a request by chance, all of whose numbers go.
func anyReq(r *rand.Rand) delta.Req {
	var q delta.Req
	for which, high := range highest {
		n := r.IntN(high + 1)
		if r.IntN(4) == 0 {
			n = []int{0, 1, high - 1, high}[r.IntN(4)]
		}
		q = with(q, which, n)
	}
	for range r.IntN([]int{1, 4, 40, 256}[r.IntN(4)]) {
		q.SSRCs = append(q.SSRCs, r.Uint32())
	}
	return q
}

func TestWhatIsPutIsParsedByChance(t *testing.T) {
	r := rand.New(rand.NewPCG(19, 2))
	for range 30000 {
		q := anyReq(r)
		both(t, r.Uint64(), q)
		which := r.IntN(len(names))
		edge(t, r.Uint64(), q, which, r.IntN(3*highest[which]+3)-highest[which])
		edge(t, r.Uint64(), q, which, int(r.Uint64()>>r.IntN(64)))
	}
}

// All mixes of the lowest and the highest numbers.
func TestWhatIsPutIsParsedOfAllMixes(t *testing.T) {
	for bits := range 1 << len(names) {
		q := delta.Req{}
		for which, high := range highest {
			q = with(q, which, high*(bits>>which&1))
		}
		for _, many := range []int{0, 1, 2, 255} {
			for _, ssrc := range []uint32{0, topSSRC} {
				q.SSRCs = slices.Repeat([]uint32{ssrc}, many)
				both(t, 0, q)
				both(t, topId, q)
			}
		}
	}
}

// What is parsed is put as it was, too.
func TestWhatIsParsedIsPut(t *testing.T) {
	r := rand.New(rand.NewPCG(19, 3))
	whole := 0
	for range 60000 {
		b := anyBytes(r, r.IntN(80))
		if len(b) >= headSize && r.IntN(4) > 0 {
			b[8] = byte(r.IntN(12))
			b[17] = byte((len(b)-headSize)/4 + r.IntN(3)/2)
			if r.IntN(2) == 0 {
				b = b[:len(b)-(len(b)-headSize)%4]
			}
		}
		id, q, err := read(t, b)
		if err != api.OK {
			continue
		}
		whole++
		if again, err := did(t, id, q); err != api.OK || !bytes.Equal(again, b) {
			t.Fatalf("%v: put again %v, error %d", b, again, err)
		}
	}
	if whole < 5000 {
		t.Errorf("%d were requests", whole)
	}
}

// A request's bytes of which some are others, or gone, or more.
func TestParseOfSpoiledRequests(t *testing.T) {
	r := rand.New(rand.NewPCG(19, 4))
	for range 30000 {
		b := bytesOf(t, r.Uint64(), anyReq(r))
		for range 1 + r.IntN(3) {
			at := r.IntN(len(b))
			if r.IntN(2) == 0 {
				at = []int{8, 17}[r.IntN(2)] // Kind, and how many SSRCs there are
			}
			switch r.IntN(4) {
			case 0:
				b[at] = byte(r.Uint32())
			case 1:
				b[at] = byte(r.IntN(14))
			case 2:
				b = slices.Insert(b, at, byte(r.Uint32()))
			case 3:
				b = slices.Delete(b, at, at+1)
			}
			if len(b) < headSize {
				break
			}
		}
		read(t, b)
		read(t, b[:r.IntN(len(b)+1)])
	}
}

// What was told is told again, whatever was put and parsed between.
func TestNothingIsKept(t *testing.T) {
	first, err := req.Put(5, mixed(1, 2, 3))
	was := slices.Clone(first)
	id, q, parseErr := req.Parse(first)
	answer := req.Answer(5, api.ErrNone)
	for _, other := range some() {
		both(t, topId, other)
		parseFails(t, api.ErrShort, was[:9])
		answers(t, 7, api.ErrFull, 20)
	}
	if !bytes.Equal(first, was) || err != api.OK || id != 5 || !sameReq(q, mixed(1, 2, 3)) || parseErr != api.OK {
		t.Errorf("%v, which was %v; %d, %+v", first, was, id, q)
	}
	if !bytes.Equal(answer, []byte{0, 0, 0, 0, 0, 0, 0, 5, 21}) {
		t.Errorf("answer %v", answer)
	}
}

// The chapter's example.
func ExampleAnswer() {
	fmt.Println(req.Answer(5, api.ErrNone))
	// Output: [0 0 0 0 0 0 0 5 21]
}

func ExamplePut() {
	b, _ := req.Put(5, delta.Req{Kind: delta.Publish, Who: 1, Track: 258, SSRCs: []uint32{70}})
	fmt.Println(b)
	id, q, err := req.Parse(b)
	fmt.Println(id, q.Kind == delta.Publish, q.Who, q.Track, q.SSRCs, err == api.OK)
	// Output:
	// [0 0 0 0 0 0 0 5 2 0 1 0 0 1 2 0 0 1 0 0 0 70]
	// 5 true 1 258 [70] true
}
