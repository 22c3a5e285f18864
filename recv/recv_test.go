package recv_test

import (
	"fmt"
	"math"
	"math/rand/v2"
	"slices"
	"testing"

	"louver/recv"
)

// round is how many numbers there are, till they begin anew.
const round = 1 << 16

// reach is how far below the highest number one is still known.
const reach = 63

// plain is a track written plainly: all numbers that came, but those that were too old.
type plain struct {
	came       map[int64]bool
	base, high int64
}

// rest is n's rest by round, from 0 on.
func rest(n int64) int64 { return (n%round + round) % round }

func newPlain() *plain { return &plain{came: map[int64]bool{}} }

// near is the number that is seq, but for times round, from half of the way round below the highest one to just less above it.
func (p *plain) near(seq uint16) int64 {
	if len(p.came) == 0 {
		return int64(seq)
	}
	ahead := rest(int64(seq) - p.high)
	if ahead >= round/2 {
		ahead -= round
	}
	return p.high + ahead
}

func (p *plain) kind(n int64) int {
	switch {
	case len(p.came) == 0 || n > p.high:
		return recv.New
	case n < p.high-reach:
		return recv.Old
	case p.came[n]:
		return recv.Again
	}
	return recv.Late
}

func (p *plain) take(seq uint16) (int64, int) {
	n := p.near(seq)
	kind := p.kind(n)
	if kind == recv.Again || kind == recv.Old {
		return n, kind
	}
	if len(p.came) == 0 {
		p.base, p.high = n, n
	}
	p.came[n] = true
	p.base, p.high = min(p.base, n), max(p.high, n)
	return n, kind
}

func (p *plain) track() recv.Track {
	if len(p.came) == 0 {
		return recv.Track{}
	}
	t := recv.Track{On: true, Base: p.base, High: p.high, Got: int64(len(p.came))}
	bit := uint64(1)
	for k := int64(0); k <= reach; k++ {
		if p.came[p.high-k] {
			t.Seen += bit
		}
		bit *= 2
	}
	return t
}

func (p *plain) missing() []uint16 {
	var l []uint16
	if len(p.came) == 0 {
		return nil
	}
	for n := max(p.base, p.high-reach); n <= p.high; n++ {
		if !p.came[n] {
			l = append(l, uint16(rest(n)))
		}
	}
	return l
}

func (p *plain) lost() int64 {
	if len(p.came) == 0 {
		return 0
	}
	return p.high - p.base + 1 - int64(len(p.came))
}

// take is a packet, and tells whether its number, and what it is, are those.
func take(t *testing.T, r recv.Track, seq uint16, n int64, kind int) recv.Track {
	t.Helper()
	was := r
	next, gotN, gotKind := r.Take(seq)
	if gotN != n || gotKind != kind {
		t.Fatalf("%+v, %d: number %d, kind %d, not %d, %d", r, seq, gotN, gotKind, n, kind)
	}
	if r != was {
		t.Fatalf("%d: what was asked is %+v, not %+v", seq, r, was)
	}
	if (kind == recv.Again || kind == recv.Old) && next != was {
		t.Fatalf("%d, of kind %d: %+v, not %+v as it was", seq, kind, next, was)
	}
	return next
}

// is tells whether a track is just that.
func is(t *testing.T, r, want recv.Track) {
	t.Helper()
	if r != want {
		t.Fatalf("%+v, not %+v", r, want)
	}
}

// misses tells whether so many are lost, and those of the last ones miss; it asks twice, as who asks changes nothing.
func misses(t *testing.T, r recv.Track, lost int64, want ...uint16) {
	t.Helper()
	was := r
	for range 2 {
		if got := r.Lost(); got != lost {
			t.Fatalf("%+v: lost %d, not %d", r, got, lost)
		}
		if got := r.Missing(); !slices.Equal(got, want) {
			t.Fatalf("%+v: missing %v, not %v", r, got, want)
		}
	}
	is(t, r, was)
}

// of is a track that those packets came to, whatever they are.
func of(seqs ...uint16) recv.Track {
	var r recv.Track
	for _, seq := range seqs {
		r, _, _ = r.Take(seq)
	}
	return r
}

// up is a row of numbers, one behind the other, from the first to the last one.
func up(first, last int64) []uint16 {
	var l []uint16
	for n := first; n <= last; n++ {
		l = append(l, uint16(n))
	}
	return l
}

// firsts are numbers that a track may begin with.
var firsts = []uint16{0, 1, 2, 62, 63, 64, 65, 100, 255, 256, 32766, 32767, 32768, 32769, 65400, 65471, 65472, 65473, 65534, 65535}

// The kinds' numbers

func TestKinds(t *testing.T) {
	if recv.New != 0 || recv.Late != 1 || recv.Again != 2 || recv.Old != 3 {
		t.Error(recv.New, recv.Late, recv.Again, recv.Old)
	}
}

// P11.1

func TestFirstOfEachNumber(t *testing.T) {
	for n := range int64(round) {
		r := take(t, recv.Track{}, uint16(n), n, recv.New)
		is(t, r, recv.Track{On: true, Base: n, High: n, Got: 1, Seen: 1})
	}
}

func TestOneBehindTheOther(t *testing.T) {
	for _, first := range []int64{0, 1, 5, 32768, 65535} {
		var r recv.Track
		for i := range int64(3*round + 7) {
			n := first + i
			r = take(t, r, uint16(n), n, recv.New)
			seen := uint64(math.MaxUint64)
			if i < 63 {
				seen = 1<<(i+1) - 1
			}
			is(t, r, recv.Track{On: true, Base: first, High: n, Got: i + 1, Seen: seen})
			if r.Lost() != 0 || len(r.Missing()) != 0 {
				t.Fatal(r.Lost(), r.Missing())
			}
		}
	}
}

// It goes on without an end: High is no number that goes round.
func TestOftenRound(t *testing.T) {
	for _, step := range []int64{32767, 32766, 20001, 1000} {
		var r recv.Track
		n := int64(65535)
		r = take(t, r, uint16(n), n, recv.New)
		for i := range int64(20000) {
			n += step
			r = take(t, r, uint16(n), n, recv.New)
			is(t, r, recv.Track{On: true, Base: 65535, High: n, Got: i + 2, Seen: 1})
		}
	}
}

func TestTwiceAtOnce(t *testing.T) {
	for _, first := range firsts {
		r, n := of(first), int64(first)
		for range 3 {
			r = take(t, r, first, n, recv.Again)
		}
		is(t, r, recv.Track{On: true, Base: n, High: n, Got: 1, Seen: 1})
		r = take(t, r, first+1, n+1, recv.New)
		for range 3 {
			r = take(t, r, first+1, n+1, recv.Again)
		}
		is(t, r, recv.Track{On: true, Base: n, High: n + 1, Got: 2, Seen: 3})
		misses(t, r, 0)
	}
}

// A packet is Again as long as it is within 63 of the highest one, and Old from then on.
func TestTwiceLater(t *testing.T) {
	for _, first := range firsts {
		r, n := of(first), int64(first)
		for k := int64(1); k <= 200; k++ {
			r = take(t, r, uint16(n+k), n+k, recv.New)
			kind := recv.Again
			if k > reach {
				kind = recv.Old
			}
			r = take(t, r, first, n, kind)
			r = take(t, r, first, n, kind)
		}
		is(t, r, recv.Track{On: true, Base: n, High: n + 200, Got: 201, Seen: math.MaxUint64})
	}
}

// What was Late is Again, too.
func TestLateTwice(t *testing.T) {
	r := of(100, 150)
	for _, seq := range []uint16{149, 101, 120, 99, 87} {
		r = take(t, r, seq, int64(seq), recv.Late)
		r = take(t, r, seq, int64(seq), recv.Again)
	}
	r = take(t, r, 151, 151, recv.New)
	for _, seq := range []uint16{149, 101, 120, 99, 150, 100, 151} {
		r = take(t, r, seq, int64(seq), recv.Again)
	}
	r = take(t, r, 87, 87, recv.Old) // 64 below by now
	is(t, r, recv.Track{On: true, Base: 87, High: 151, Got: 8, Seen: 1 | 1<<1 | 1<<2 | 1<<31 | 1<<50 | 1<<51 | 1<<52})
}

// A gap is of so many numbers: what comes is one more above the highest one.
func TestGaps(t *testing.T) {
	for _, gap := range []int64{0, 1, 2, 61, 62, 63, 64, 65, 66, 127, 128, 1000, 32764, 32765, 32766} {
		for _, first := range firsts {
			n := int64(first) + gap + 1
			r := take(t, of(first), uint16(n), n, recv.New)
			seen := uint64(1)
			if gap < 63 {
				seen += 1 << (gap + 1)
			}
			is(t, r, recv.Track{On: true, Base: int64(first), High: n, Got: 2, Seen: seen})
			misses(t, r, gap, up(max(int64(first)+1, n-reach), n-1)...)
		}
	}
}

// From half of the way round on a number is below the highest one, and much too far.
func TestHalfOfTheWayRound(t *testing.T) {
	for _, first := range firsts {
		n := int64(first)
		for _, ahead := range []int64{32768, 32769, 32770, 40000, 65471} {
			r := take(t, of(first), uint16(n+ahead), n+ahead-round, recv.Old)
			is(t, r, of(first))
			misses(t, r, 0)
		}
		for _, ahead := range []int64{65473, 65474, 65534, 65535} { // within 63 of it, from below
			r := take(t, of(first), uint16(n+ahead), n+ahead-round, recv.Late)
			is(t, r, recv.Track{On: true, Base: n + ahead - round, High: n, Got: 2, Seen: 1 | 1<<(round-ahead)})
		}
		take(t, of(first), uint16(n+65472), n-64, recv.Old)
	}
}

// full is a track of all numbers from so many below the highest one on.
func full(high, below int64) recv.Track { return of(up(high-below, high)...) }

func TestBelowTheHighestThatCame(t *testing.T) {
	for _, high := range []int64{200, 65535, 65536, 65537, 65599, 65600} {
		for _, k := range []int64{0, 1, 2, 31, 32, 33, 61, 62, 63} {
			take(t, full(high, 199), uint16(high-k), high-k, recv.Again)
		}
		for _, k := range []int64{64, 65, 66, 100, 199, 200, 32766, 32767, 32768} {
			take(t, full(high, 199), uint16(high-k), high-k, recv.Old)
		}
	}
}

func TestBelowTheHighestThatDidNotCome(t *testing.T) {
	for _, first := range firsts {
		n := int64(first)
		high := n + 300
		r := take(t, of(first), uint16(high), high, recv.New)
		for _, k := range []int64{1, 2, 31, 32, 33, 61, 62, 63} {
			next := take(t, r, uint16(high-k), high-k, recv.Late)
			is(t, next, recv.Track{On: true, Base: n, High: high, Got: 3, Seen: 1 | 1<<k})
			misses(t, next, 298, slices.Delete(up(high-reach, high-1), int(reach-k), int(reach-k)+1)...)
		}
		for _, k := range []int64{64, 65, 66, 100, 299, 300, 301, 32766, 32767, 32768} {
			take(t, r, uint16(high-k), high-k, recv.Old)
		}
	}
}

func TestBelowTheLowest(t *testing.T) {
	for _, first := range firsts {
		n := int64(first)
		for k := int64(1); k <= reach; k++ {
			r := take(t, of(first), uint16(n-k), n-k, recv.Late)
			is(t, r, recv.Track{On: true, Base: n - k, High: n, Got: 2, Seen: 1 | 1<<k})
			misses(t, r, k-1, up(n-k+1, n-1)...)
			take(t, r, uint16(n-k), n-k, recv.Again)
		}
		for _, k := range []int64{64, 65, 66, 1000, 32767, 32768} {
			r := take(t, of(first), uint16(n-k), n-k, recv.Old)
			is(t, r, of(first))
		}
	}
}

// How far a number is below the highest one is what counts, not how far below the lowest one.
func TestBelowTheLowestOfMore(t *testing.T) {
	r := of(up(1000, 1040)...)
	take(t, r, 976, 976, recv.Old)
	r = take(t, r, 977, 977, recv.Late)
	is(t, r, recv.Track{On: true, Base: 977, High: 1040, Got: 42, Seen: 1<<41 - 1 | 1<<63})
	misses(t, r, 22, up(978, 999)...)
	take(t, r, 976, 976, recv.Old)
	r = take(t, r, 980, 980, recv.Late) // it is no lowest one
	is(t, r, recv.Track{On: true, Base: 977, High: 1040, Got: 43, Seen: 1<<41 - 1 | 1<<60 | 1<<63})
}

// Below 0 numbers go on: 65535 is -1 there.
func TestBelowNought(t *testing.T) {
	r := take(t, of(0), 65535, -1, recv.Late)
	is(t, r, recv.Track{On: true, Base: -1, High: 0, Got: 2, Seen: 3})
	r = take(t, r, 65473, -63, recv.Late)
	is(t, r, recv.Track{On: true, Base: -63, High: 0, Got: 3, Seen: 1 | 1<<1 | 1<<63})
	take(t, r, 65472, -64, recv.Old)
	misses(t, r, 61, up(-62, -2)...)
	r = take(t, r, 65534, -2, recv.Late)
	r = take(t, r, 1, 1, recv.New)
	is(t, r, recv.Track{On: true, Base: -63, High: 1, Got: 5, Seen: 1 | 1<<1 | 1<<2 | 1<<3})
	take(t, r, 65535, -1, recv.Again)
	take(t, r, 65473, -63, recv.Old)
}

// Behind a packet that is New, Seen tells of the same numbers, so far as they are within 63.
func TestSeenBehindNew(t *testing.T) {
	const some = 1 | 1<<1 | 1<<7 | 1<<32 | 1<<62 | 1<<63
	r := of(500, 493, 468, 438, 437, 499)
	is(t, r, recv.Track{On: true, Base: 437, High: 500, Got: 6, Seen: some})
	for _, c := range []struct {
		by   int64
		seen uint64
	}{
		{1, 1 | 1<<1 | 1<<2 | 1<<8 | 1<<33 | 1<<63},
		{2, 1 | 1<<2 | 1<<3 | 1<<9 | 1<<34},
		{31, 1 | 1<<31 | 1<<32 | 1<<38 | 1<<63},
		{56, 1 | 1<<56 | 1<<57 | 1<<63},
		{62, 1 | 1<<62 | 1<<63},
		{63, 1 | 1<<63},
		{64, 1},
		{65, 1},
		{66, 1},
		{127, 1},
		{128, 1},
		{129, 1},
		{256, 1},
		{32767, 1},
	} {
		next := take(t, r, uint16(500+c.by), 500+c.by, recv.New)
		is(t, next, recv.Track{On: true, Base: 437, High: 500 + c.by, Got: 7, Seen: c.seen})
		for k := int64(0); k <= reach; k++ { // what Seen tells is what comes Again
			kind := recv.Late
			if c.seen>>k&1 == 1 {
				kind = recv.Again
			}
			take(t, next, uint16(500+c.by-k), 500+c.by-k, kind)
		}
	}
}

func TestSeenBehindLate(t *testing.T) {
	r := of(10, 110)
	seen := uint64(1)
	for i, k := range []int64{63, 1, 62, 2, 31, 32} {
		r = take(t, r, uint16(110-k), 110-k, recv.Late)
		seen |= 1 << k
		is(t, r, recv.Track{On: true, Base: 10, High: 110, Got: int64(i) + 3, Seen: seen})
	}
	for k := int64(1); k <= reach; k++ { // the others, too: each bit is one number's
		if seen>>k&1 == 0 {
			r = take(t, r, uint16(110-k), 110-k, recv.Late)
		}
	}
	is(t, r, recv.Track{On: true, Base: 10, High: 110, Got: 65, Seen: math.MaxUint64})
	misses(t, r, 36)
}

// Of some tracks, what each number is, as the plain one tells it.
func TestEachNumber(t *testing.T) {
	for _, seqs := range [][]uint16{
		{},
		{0},
		{65535},
		{32768},
		{5, 1, 3, 70, 69},
		{65500, 65535, 1, 20},
		{0, 65535, 65530, 40},
		{1000, 1064, 1065, 1003},
		{0, 30000, 60000, 25000, 25007, 24960},
	} {
		p := newPlain()
		for _, seq := range seqs {
			p.take(seq)
		}
		r := of(seqs...)
		is(t, r, p.track())
		for seq := range round {
			n := p.near(uint16(seq))
			take(t, r, uint16(seq), n, p.kind(n))
		}
	}
}

// P11.2

func TestZeroTrack(t *testing.T) {
	misses(t, recv.Track{}, 0)
}

func TestFirstAlone(t *testing.T) {
	for seq := range round {
		r := of(uint16(seq))
		if r.Lost() != 0 || len(r.Missing()) != 0 {
			t.Fatalf("%d: lost %d, missing %v", seq, r.Lost(), r.Missing())
		}
	}
}

// Fewer than 64 numbers are between the lowest and the highest one: all that miss are told.
func TestMissingOfFew(t *testing.T) {
	for _, first := range firsts {
		for span := int64(1); span <= reach; span++ {
			n := int64(first)
			misses(t, of(first, first+uint16(span)), span-1, up(n+1, n+span-1)...)
		}
	}
	misses(t, of(10, 12), 1, 11)
	misses(t, of(10, 12, 11), 0)
	misses(t, of(10, 15, 13), 3, 11, 12, 14)
	misses(t, of(10, 15, 13, 8), 4, 9, 11, 12, 14)
	misses(t, of(13, 8), 4, 9, 10, 11, 12)
}

// More are: only those within 63 of the highest one are told, though more are lost.
func TestMissingOfMany(t *testing.T) {
	for _, first := range firsts {
		n := int64(first)
		for _, span := range []int64{64, 65, 66, 100, 1000, 32767} {
			high := n + span
			r := of(first, uint16(high))
			misses(t, r, span-1, up(high-reach, high-1)...)
			r = take(t, r, uint16(high-reach), high-reach, recv.Late)
			misses(t, r, span-2, up(high-reach+1, high-1)...)
			r = take(t, r, uint16(high-1), high-1, recv.Late)
			misses(t, r, span-3, up(high-reach+1, high-2)...)
		}
	}
}

// The number 63 below the highest one may be told, the one 64 below it may not; the lowest one came.
func TestMissingAtTheLowest(t *testing.T) {
	r := of(append([]uint16{100}, up(102, 163)...)...) // 101 misses
	misses(t, r, 1, 101)
	r = take(t, r, 164, 164, recv.New) // it is 63 below
	misses(t, r, 1, 101)
	r = take(t, r, 165, 165, recv.New) // it is 64 below
	misses(t, r, 1)
	take(t, r, 101, 101, recv.Old)
	misses(t, r, 1)
}

func TestMissingBehindEachKind(t *testing.T) {
	r := of(100)
	misses(t, r, 0)
	r = take(t, r, 105, 105, recv.New)
	misses(t, r, 4, 101, 102, 103, 104)
	r = take(t, r, 103, 103, recv.Late)
	misses(t, r, 3, 101, 102, 104)
	r = take(t, r, 103, 103, recv.Again)
	misses(t, r, 3, 101, 102, 104)
	r = take(t, r, 30, 30, recv.Old)
	misses(t, r, 3, 101, 102, 104)
	r = take(t, r, 97, 97, recv.Late) // what it makes the lowest one leaves more behind
	misses(t, r, 5, 98, 99, 101, 102, 104)
	r = take(t, r, 107, 107, recv.New)
	misses(t, r, 6, 98, 99, 101, 102, 104, 106)
	r = take(t, r, 164, 164, recv.New)
	misses(t, r, 62, slices.Concat(up(101, 102), []uint16{104, 106}, up(108, 163))...)
	r = take(t, r, 101, 101, recv.Late)
	misses(t, r, 61, slices.Concat([]uint16{102, 104, 106}, up(108, 163))...)
	r = take(t, r, 1000, 1000, recv.New)
	misses(t, r, 896, up(937, 999)...)
	r = take(t, r, 102, 102, recv.Old)
	misses(t, r, 896, up(937, 999)...)
}

// What misses may be 65535, and 0, and numbers on both sides: they rise, though their rests do not.
func TestMissingGoesRound(t *testing.T) {
	misses(t, of(65534, 0), 1, 65535)
	misses(t, of(65535, 1), 1, 0)
	misses(t, of(65533, 2), 4, 65534, 65535, 0, 1)
	misses(t, of(65533, 2, 65535), 3, 65534, 0, 1)
	misses(t, of(65533, 2, 0), 3, 65534, 65535, 1)
	misses(t, of(65472, 65535), 62, up(65473, 65534)...)
	misses(t, of(65473, 0), 62, up(65474, 65535)...)
	misses(t, of(65474, 1), 62, up(65475, 65536)...)
	misses(t, of(65535, 62), 62, up(0, 61)...)
	misses(t, of(65535, 63), 63, up(0, 62)...)
	misses(t, of(65535, 64), 64, up(1, 63)...)
	misses(t, of(0, 65534), 1, 65535) // below 0
	misses(t, of(1, 65534), 2, 65535, 0)
	misses(t, of(3, 65530, 65535, 1), 6, 65531, 65532, 65533, 65534, 0, 2)
}

// Often round, and beyond: what is told is the number's rest.
func TestMissingFurther(t *testing.T) {
	var r recv.Track
	for n := int64(0); n < 40*round; n += 30000 {
		r = take(t, r, uint16(n), n, recv.New)
	}
	for r.High%round < round-20 {
		r = take(t, r, uint16(r.High+1), r.High+1, recv.New)
	}
	for _, step := range []int64{15, 10, 1, 3} { // beyond 65535 there
		r = take(t, r, uint16(r.High+step), r.High+step, recv.New)
	}
	misses(t, r, r.High+1-r.Got, slices.Concat(up(65517, 65530), up(65532, 65535), up(0, 4), []uint16{7, 8})...)
	if r.High < 39*round {
		t.Error(r.High)
	}
}

func TestMemory(t *testing.T) {
	r := of(65533, 2)
	told := r.Missing()
	told = told[:cap(told)]
	for i := range told {
		told[i] = 7
	}
	misses(t, r, 4, 65534, 65535, 0, 1)
	a, b := r.Missing(), r.Missing()
	clear(a[:cap(a)])
	if !slices.Equal(b, []uint16{65534, 65535, 0, 1}) {
		t.Error(b)
	}
}

// P11.3

// story lets a track and the plain one go on alike, and holds them against each other at each step.
type story struct {
	r    recv.Track
	p    *plain
	once map[int64]int // how often a number was New, or Late
}

func newStory() *story { return &story{p: newPlain(), once: map[int64]int{}} }

func (s *story) step(t *testing.T, seq uint16) {
	t.Helper()
	n, kind := s.p.take(seq)
	s.r = take(t, s.r, seq, n, kind)
	is(t, s.r, s.p.track())
	if kind == recv.New || kind == recv.Late {
		s.once[n]++
	}
	if s.once[n] > 1 {
		t.Fatalf("%d was New, or Late, %d times", n, s.once[n])
	}
	if s.once[n] == 0 && n >= s.r.High-reach {
		t.Fatalf("%d is within 63 of %d, and was neither New nor Late", n, s.r.High)
	}
}

// ask asks for what misses.
func (s *story) ask(t *testing.T) {
	t.Helper()
	misses(t, s.r, s.p.lost(), s.p.missing()...)
}

func TestEachWayOfFewSteps(t *testing.T) {
	const steps = 5
	seqs := []uint16{65535, 0, 1, 62, 63, 64, 32767}
	ways := 1
	for range steps {
		ways *= len(seqs)
	}
	for way := range ways {
		var r recv.Track
		once := map[int64]int{}
		for range steps {
			next, n, kind := r.Take(seqs[way%len(seqs)])
			way /= len(seqs)
			again := once[n] > 0
			switch {
			case r.On && n < r.High-reach:
				if kind != recv.Old {
					t.Fatalf("%+v, %d: %d", r, n, kind)
				}
			case again:
				if kind != recv.Again {
					t.Fatalf("%+v, %d: %d", r, n, kind)
				}
			default:
				if kind != recv.New && kind != recv.Late {
					t.Fatalf("%+v, %d: %d", r, n, kind)
				}
				once[n]++
			}
			r = next
		}
		if int(r.Got) != len(once) {
			t.Fatalf("%+v: %d came", r, len(once))
		}
	}
}

// A stream goes round; some of its packets don't come, or come late, or twice.
func TestManySteps(t *testing.T) {
	chance := rand.New(rand.NewPCG(11, 3))
	for _, back := range []int{1, 5, 63, 64, 70, 200, 40000} {
		s := newStory()
		s.ask(t)
		at := chance.IntN(round)
		for range 1500 {
			switch chance.IntN(6) {
			case 0:
				at += chance.IntN(4)
			case 1:
				at += chance.IntN(2 * back)
			default:
				at++
			}
			s.step(t, uint16(at))
			s.ask(t)
			for range chance.IntN(3) {
				s.step(t, uint16(at-chance.IntN(back)))
				s.ask(t)
			}
		}
	}
}

// Numbers just as chance has it.
func TestManyStepsAnywhere(t *testing.T) {
	chance := rand.New(rand.NewPCG(11, 4))
	for _, numbers := range []int{2, 10, 65, 128, 1000, round} {
		s := newStory()
		for range 400 {
			s.step(t, uint16(chance.IntN(numbers)-numbers/2))
			s.ask(t)
		}
	}
}

// What may come in a turned order is New, or Late, once, and none is lost then.
func TestTurnedOrder(t *testing.T) {
	chance := rand.New(rand.NewPCG(11, 5))
	for range 50 {
		first := int64(chance.IntN(round))
		order := chance.Perm(64)
		s := newStory()
		for range 2 {
			for _, k := range order {
				s.step(t, uint16(first+int64(k)))
			}
		}
		misses(t, s.r, 0)
		is(t, s.r, recv.Track{On: true, Base: s.r.Base, High: s.r.Base + 63, Got: 64, Seen: math.MaxUint64})
	}
}

// A track that Take did not tell: some answer, the same one each time.
func TestTracksThatTakeDidNotTell(t *testing.T) {
	numbers := []int64{math.MinInt64, math.MinInt64 + 1, math.MinInt64 + 40, -70000, -1, 0, 5, 1 << 40, math.MaxInt64 - 40, math.MaxInt64 - 1, math.MaxInt64}
	for _, on := range []bool{false, true} {
		for _, base := range numbers {
			for _, high := range numbers {
				for _, seen := range []uint64{0, 1, 1 << 63, math.MaxUint64} {
					r := recv.Track{On: on, Base: base, High: high, Got: base, Seen: seen}
					odd(t, r)
				}
			}
		}
	}
}

func odd(t *testing.T, r recv.Track) {
	t.Helper()
	for _, seq := range firsts {
		a, n, kind := r.Take(seq)
		b, m, same := r.Take(seq)
		if a != b || n != m || kind != same {
			t.Fatalf("%+v, %d: two answers", r, seq)
		}
	}
	if r.Lost() != r.Lost() || !slices.Equal(r.Missing(), r.Missing()) {
		t.Fatalf("%+v: two answers", r)
	}
}

func ExampleTrack() {
	var r recv.Track
	for _, seq := range []uint16{65535, 1} {
		next, n, kind := r.Take(seq)
		fmt.Println(n, kind == recv.New)
		r = next
	}
	fmt.Println(r.High, r.Lost(), r.Missing())
	// Output:
	// 65535 true
	// 65537 true
	// 65537 1 [0]
}
