package munge_test

import (
	"fmt"
	"math"
	"math/rand/v2"
	"testing"

	"louver/munge"
)

const (
	round16 = int64(1) << 16
	round32 = int64(1) << 32
)

// rest is the rest of a number, from 0 on.
func rest(n, round int64) int64 { return (n%round + round) % round }

// nums are four numbers' rests.
func nums(seq, time, pic, tl0 int64) munge.Nums {
	return munge.Nums{
		Seq:  uint16(rest(seq, round16)),
		Time: uint32(rest(time, round32)),
		Pic:  uint16(rest(pic, round16)),
		Tl0:  uint8(rest(tl0, 256)),
	}
}

// less is a less b, number by number.
func less(a, b munge.Nums) munge.Nums {
	return nums(int64(a.Seq)-int64(b.Seq), int64(a.Time)-int64(b.Time), int64(a.Pic)-int64(b.Pic), int64(a.Tl0)-int64(b.Tl0))
}

// near is the number nearest to high that is seq, but for times round; of two that are as near the lower one.
func near(high int64, seq uint16) int64 {
	n := high - rest(high-int64(seq), round16) // at most high
	if n+round16-high < high-n {
		n += round16
	}
	return n
}

// isBehind tells whether a time is less than half of the way round behind another one.
func isBehind(a, b uint32) bool {
	far := rest(int64(b)-int64(a), round32)
	return far > 0 && far < round32/2
}

// plainSwitch, plainSend and plainDrop are what the chapter's words tell, in their order.
func plainSwitch(s munge.State, in munge.Nums, step uint32) (munge.State, munge.Nums) {
	if !s.On {
		return munge.State{On: true, High: int64(in.Seq), Since: int64(in.Seq), Out: in}, in
	}
	out := nums(int64(s.Out.Seq)+1, int64(s.Out.Time)+int64(step), int64(s.Out.Pic)+1, int64(s.Out.Tl0)+1)
	return munge.State{On: true, High: int64(in.Seq), Since: int64(in.Seq), Off: less(in, out), Out: out}, out
}

func plainSend(s munge.State, in munge.Nums) (munge.State, munge.Nums, bool) {
	if !s.On {
		return s, munge.Nums{}, false
	}
	n := near(s.High, in.Seq)
	out := less(in, s.Off)
	if n <= s.High {
		if n <= s.Since {
			return s, munge.Nums{}, false
		}
		return s, out, true
	}
	if isBehind(out.Time, s.Out.Time) {
		out.Time = s.Out.Time
	}
	return munge.State{On: true, High: n, Since: s.Since, Off: s.Off, Out: out}, out, true
}

func plainDrop(s munge.State, in munge.Nums, begin bool) munge.State {
	if !s.On {
		return s
	}
	n := near(s.High, in.Seq)
	if n <= s.High {
		return s
	}
	pic := int64(s.Off.Pic)
	if begin {
		pic++
	}
	off := nums(int64(s.Off.Seq)+1, int64(s.Off.Time), pic, int64(s.Off.Tl0))
	return munge.State{On: true, High: n, Since: n, Off: off, Out: s.Out}
}

// switches tells whether a Switch leaves that state, and tells that.
func switches(t *testing.T, s munge.State, in munge.Nums, step uint32, next munge.State, out munge.Nums) munge.State {
	t.Helper()
	was := s
	got, told := s.Switch(in, step)
	if got != next || told != out {
		t.Fatalf("%+v, Switch of %+v, %d: %+v, %+v, not %+v, %+v", was, in, step, got, told, next, out)
	}
	if s != was {
		t.Fatalf("what was asked is %+v, not %+v", s, was)
	}
	return got
}

// sends tells whether a Send leaves that state, and tells that.
func sends(t *testing.T, s munge.State, in munge.Nums, next munge.State, out munge.Nums) munge.State {
	t.Helper()
	was := s
	got, told, ok := s.Send(in)
	if got != next || told != out || !ok {
		t.Fatalf("%+v, Send of %+v: %+v, %+v, %t, not %+v, %+v, true", was, in, got, told, ok, next, out)
	}
	if s != was {
		t.Fatalf("what was asked is %+v, not %+v", s, was)
	}
	return got
}

// refuses tells whether a Send leaves the state as it was, and tells nothing.
func refuses(t *testing.T, s munge.State, in munge.Nums) {
	t.Helper()
	got, told, ok := s.Send(in)
	if got != s || told != (munge.Nums{}) || ok {
		t.Fatalf("%+v, Send of %+v: %+v, %+v, %t, not the state as it was, noughts, false", s, in, got, told, ok)
	}
}

// drops tells whether a Drop leaves that state.
func drops(t *testing.T, s munge.State, in munge.Nums, begin bool, next munge.State) munge.State {
	t.Helper()
	was := s
	if got := s.Drop(in, begin); got != next {
		t.Fatalf("%+v, Drop of %+v, %t: %+v, not %+v", was, in, begin, got, next)
	}
	if s != was {
		t.Fatalf("what was asked is %+v, not %+v", s, was)
	}
	return next
}

// each holds all three calls of a state and a packet against the plain ones.
func each(t *testing.T, s munge.State, in munge.Nums, step uint32) {
	t.Helper()
	next, out := plainSwitch(s, in, step)
	switches(t, s, in, step, next, out)
	if next, out, ok := plainSend(s, in); ok {
		sends(t, s, in, next, out)
	} else {
		refuses(t, s, in)
	}
	for _, begin := range []bool{false, true} {
		drops(t, s, in, begin, plainDrop(s, in, begin))
	}
}

var (
	seqs  = []uint16{0, 1, 99, 100, 101, 32767, 32768, 32769, 65534, 65535}
	times = []uint32{0, 1, 3000, 1<<31 - 1, 1 << 31, 1<<31 + 1, math.MaxUint32 - 1, math.MaxUint32}
	tl0s  = []uint8{0, 1, 127, 128, 254, 255}
)

// odd is a state that isn't On, each number of which would be seen, if it were read.
var odd = munge.State{
	High: 77777, Since: -5,
	Off: munge.Nums{Seq: 11, Time: 12, Pic: 13, Tl0: 14},
	Out: munge.Nums{Seq: 21, Time: 22, Pic: 23, Tl0: 24},
}

// P13.1: a state that isn't On

func TestSwitchOfOneThatIsNotOn(t *testing.T) {
	in := munge.Nums{Seq: 100, Time: 5000, Pic: 7, Tl0: 3}
	next := munge.State{On: true, High: 100, Since: 100, Out: in}
	for _, s := range []munge.State{{}, odd, {High: 100, Since: 100}, {Out: in}, {Off: in}} {
		for _, step := range []uint32{0, 1, 3000, math.MaxUint32} {
			switches(t, s, in, step, next, in)
		}
	}
}

// Each number by itself is told as it came.
func TestSwitchOfEachNumberOfOneThatIsNotOn(t *testing.T) {
	alone := func(in munge.Nums) {
		t.Helper()
		switches(t, odd, in, 9, munge.State{On: true, High: int64(in.Seq), Since: int64(in.Seq), Out: in}, in)
	}
	alone(munge.Nums{})
	for n := range 65536 {
		alone(munge.Nums{Seq: uint16(n)})
		alone(munge.Nums{Pic: uint16(n)})
		alone(munge.Nums{Tl0: uint8(n)})
	}
	for _, n := range times {
		alone(munge.Nums{Time: n})
	}
}

// P13.1: a state that is On

func TestSwitchOfOneThatIsOn(t *testing.T) {
	s := munge.State{
		On: true, High: 70000, Since: 69990,
		Off: munge.Nums{Seq: 5, Time: 6, Pic: 7, Tl0: 8},
		Out: munge.Nums{Seq: 200, Time: 10000, Pic: 30, Tl0: 40},
	}
	in := munge.Nums{Seq: 1000, Time: 50000, Pic: 100, Tl0: 90}
	out := munge.Nums{Seq: 201, Time: 13000, Pic: 31, Tl0: 41}
	next := munge.State{On: true, High: 1000, Since: 1000, Off: munge.Nums{Seq: 799, Time: 37000, Pic: 69, Tl0: 49}, Out: out}
	switches(t, s, in, 3000, next, out)
}

// What is told comes of Out alone, High and Since of the packet's Seq alone, and Off of both.
func TestSwitchReadsOutAlone(t *testing.T) {
	out := munge.Nums{Seq: 5, Time: 50, Pic: 6, Tl0: 7}
	told := munge.Nums{Seq: 6, Time: 60, Pic: 7, Tl0: 8}
	for _, high := range []int64{-70000, -1, 0, 5, 9, 10, 11, 32768, 65535, 65536, 1 << 40} {
		for _, since := range []int64{-1 << 40, -1, 0, 9, 10, 65536} {
			s := munge.State{On: true, High: high, Since: since, Off: munge.Nums{Seq: 1, Time: 2, Pic: 3, Tl0: 4}, Out: out}
			next := munge.State{On: true, High: 10, Since: 10, Off: munge.Nums{Seq: 4, Time: 40, Pic: 3, Tl0: 2}, Out: told}
			switches(t, s, munge.Nums{Seq: 10, Time: 100, Pic: 10, Tl0: 10}, 10, next, told)
		}
	}
}

// Out's numbers go round, each by itself, where they are one higher.
func TestSwitchGoesRoundUp(t *testing.T) {
	plain := munge.Nums{Seq: 10, Time: 10, Pic: 10, Tl0: 10}
	for _, c := range []struct{ out, told munge.Nums }{
		{munge.Nums{Seq: 65535, Time: 10, Pic: 10, Tl0: 10}, munge.Nums{Seq: 0, Time: 12, Pic: 11, Tl0: 11}},
		{munge.Nums{Seq: 10, Time: math.MaxUint32, Pic: 10, Tl0: 10}, munge.Nums{Seq: 11, Time: 1, Pic: 11, Tl0: 11}},
		{munge.Nums{Seq: 10, Time: math.MaxUint32 - 1, Pic: 10, Tl0: 10}, munge.Nums{Seq: 11, Time: 0, Pic: 11, Tl0: 11}},
		{munge.Nums{Seq: 10, Time: math.MaxUint32 - 2, Pic: 10, Tl0: 10}, munge.Nums{Seq: 11, Time: math.MaxUint32, Pic: 11, Tl0: 11}},
		{munge.Nums{Seq: 10, Time: 10, Pic: 65535, Tl0: 10}, munge.Nums{Seq: 11, Time: 12, Pic: 0, Tl0: 11}},
		{munge.Nums{Seq: 10, Time: 10, Pic: 32767, Tl0: 10}, munge.Nums{Seq: 11, Time: 12, Pic: 32768, Tl0: 11}},
		{munge.Nums{Seq: 10, Time: 10, Pic: 10, Tl0: 255}, munge.Nums{Seq: 11, Time: 12, Pic: 11, Tl0: 0}},
		{munge.Nums{Seq: 65535, Time: math.MaxUint32, Pic: 65535, Tl0: 255}, munge.Nums{Time: 1}},
	} {
		s := munge.State{On: true, High: 1, Out: c.out}
		next := munge.State{On: true, High: 10, Since: 10, Off: less(plain, c.told), Out: c.told}
		switches(t, s, plain, 2, next, c.told)
	}
}

// Off's numbers go round, each by itself, where what comes is below what is told.
func TestSwitchGoesRoundDown(t *testing.T) {
	told := munge.Nums{Seq: 11, Time: 11, Pic: 11, Tl0: 11}
	s := munge.State{On: true, High: 1, Out: munge.Nums{Seq: 10, Time: 10, Pic: 10, Tl0: 10}}
	for _, c := range []struct{ in, off munge.Nums }{
		{munge.Nums{Seq: 10, Time: 11, Pic: 11, Tl0: 11}, munge.Nums{Seq: 65535}},
		{munge.Nums{Seq: 11, Time: 10, Pic: 11, Tl0: 11}, munge.Nums{Time: math.MaxUint32}},
		{munge.Nums{Seq: 11, Time: 11, Pic: 10, Tl0: 11}, munge.Nums{Pic: 65535}},
		{munge.Nums{Seq: 11, Time: 11, Pic: 11, Tl0: 10}, munge.Nums{Tl0: 255}},
		{munge.Nums{Seq: 11, Time: 11, Pic: 11, Tl0: 11}, munge.Nums{}},
		{munge.Nums{}, munge.Nums{Seq: 65525, Time: math.MaxUint32 - 10, Pic: 65525, Tl0: 245}},
		{munge.Nums{Seq: 65535, Time: math.MaxUint32, Pic: 65535, Tl0: 255}, munge.Nums{Seq: 65524, Time: math.MaxUint32 - 11, Pic: 65524, Tl0: 244}},
	} {
		n := int64(c.in.Seq)
		switches(t, s, c.in, 1, munge.State{On: true, High: n, Since: n, Off: c.off, Out: told}, told)
	}
}

func TestSteps(t *testing.T) {
	for _, c := range []struct{ time, step, told uint32 }{
		{5, 0, 5},
		{5, 3000, 3005},
		{0, math.MaxUint32, math.MaxUint32},
		{1, math.MaxUint32, 0},
		{5, math.MaxUint32, 4},
		{math.MaxUint32, 0, math.MaxUint32},
		{math.MaxUint32, 1, 0},
		{math.MaxUint32 - 2999, 3000, 0},
		{math.MaxUint32 - 2998, 3000, 1},
		{1 << 31, 1 << 31, 0},
		{1<<31 - 1, 1, 1 << 31},
	} {
		s := munge.State{On: true, Out: munge.Nums{Time: c.time}}
		out := munge.Nums{Seq: 1, Time: c.told, Pic: 1, Tl0: 1}
		in := munge.Nums{Seq: 1, Time: 7, Pic: 1, Tl0: 1}
		switches(t, s, in, c.step, munge.State{On: true, High: 1, Since: 1, Off: munge.Nums{Time: 7 - c.told}, Out: out}, out)
	}
}

// P13.2

// stream is a state of a stream of which 100 is the highest number, and Off changed last at 90.
func stream() munge.State {
	return munge.State{
		On: true, High: 100, Since: 90,
		Off: munge.Nums{Seq: 10, Time: 1000, Pic: 4, Tl0: 2},
		Out: munge.Nums{Seq: 90, Time: 5000, Pic: 20, Tl0: 30},
	}
}

func TestSendOfOneThatIsNotOn(t *testing.T) {
	off := stream()
	off.On = false
	for _, s := range []munge.State{{}, odd, off} {
		for n := range 65536 {
			refuses(t, s, munge.Nums{Seq: uint16(n), Time: 9000, Pic: 40, Tl0: 50})
		}
	}
}

func TestSendAhead(t *testing.T) {
	for _, seq := range []uint16{101, 102, 110, 5000, 32766, 32767, 32867} {
		in := munge.Nums{Seq: seq, Time: 9000, Pic: 25, Tl0: 33}
		next := stream()
		next.High = int64(seq)
		next.Out = munge.Nums{Seq: seq - 10, Time: 8000, Pic: 21, Tl0: 31}
		sends(t, stream(), in, next, next.Out)
	}
}

// A packet ahead is told, wherever Since is.
func TestSendAheadBelowSince(t *testing.T) {
	for _, since := range []int64{100, 101, 102, 200, 1 << 20} {
		s := stream()
		s.Since = since
		next := s
		next.High = 101
		next.Out = munge.Nums{Seq: 91, Time: 8000, Pic: 21, Tl0: 31}
		sends(t, s, munge.Nums{Seq: 101, Time: 9000, Pic: 25, Tl0: 33}, next, next.Out)
	}
}

// What is told of a packet behind leaves the state as it was, also where its numbers are above Out's.
func TestSendBehind(t *testing.T) {
	for _, seq := range []uint16{91, 92, 99, 100} {
		for _, in := range []munge.Nums{
			{Time: 6000, Pic: 24, Tl0: 32}, // as Out
			{Time: 1001, Pic: 5, Tl0: 3},
			{Time: 9000, Pic: 90, Tl0: 99},
			{Time: 0, Pic: 0, Tl0: 0}, // it goes round
		} {
			in.Seq = seq
			out := munge.Nums{Seq: seq - 10, Time: in.Time - 1000, Pic: in.Pic - 4, Tl0: in.Tl0 - 2}
			sends(t, stream(), in, stream(), out)
			sends(t, sends(t, stream(), in, stream(), out), in, stream(), out)
		}
	}
}

// What is behind is told as of its own time, though that is behind Out's.
func TestTimeOfOneBehind(t *testing.T) {
	sends(t, stream(), munge.Nums{Seq: 99, Time: 5999, Pic: 24, Tl0: 32}, stream(), munge.Nums{Seq: 89, Time: 4999, Pic: 20, Tl0: 30})
}

func TestSendAtSinceAtMost(t *testing.T) {
	in := munge.Nums{Time: 9000, Pic: 25, Tl0: 33}
	for _, seq := range []uint16{90, 89, 80, 0, 65535, 65000, 32869, 32868} { // 32868 is just half of the way round from 100
		in.Seq = seq
		refuses(t, stream(), in)
	}
	in.Seq = 91
	sends(t, stream(), in, stream(), munge.Nums{Seq: 81, Time: 8000, Pic: 21, Tl0: 31})
}

// At High, where Since is High: refused; where Since is one below: told.
func TestSendAtHigh(t *testing.T) {
	s := stream()
	in := munge.Nums{Seq: 100, Time: 9000, Pic: 25, Tl0: 33}
	out := munge.Nums{Seq: 90, Time: 8000, Pic: 21, Tl0: 31}
	for since, told := range map[int64]bool{98: true, 99: true, 100: false, 101: false, 90: true} {
		s.Since = since
		if told {
			sends(t, s, in, s, out)
		} else {
			refuses(t, s, in)
		}
	}
}

// A packet just half of the way round from High is behind, and as far below; one step less is ahead, or behind.
func TestHalfOfTheWayRound(t *testing.T) {
	for _, high := range []int64{-65536 - 5, -32768, -1, 0, 100, 32767, 32768, 65535, 65536, 1<<20 + 7, 1 << 40, -1 << 40} {
		in := func(n int64) munge.Nums { return nums(n, 7, 8, 9) }
		s := munge.State{On: true, High: high, Since: high - 40000, Out: nums(1, 2, 3, 4)}

		ahead := s
		ahead.High, ahead.Out = high+32767, in(high+32767)
		sends(t, s, in(high+32767), ahead, in(high+32767))
		sends(t, s, in(high+32768), s, in(high+32768))
		sends(t, s, in(high+32769), s, in(high+32769))

		s.Since = high - 32768
		refuses(t, s, in(high-32768))
		sends(t, s, in(high-32767), s, in(high-32767))
		s.Since = high - 32769
		sends(t, s, in(high-32768), s, in(high-32768))

		drops(t, s, in(high+32768), true, s)
		drops(t, s, in(high+32769), true, s)
		drops(t, s, in(high+32767), true, munge.State{On: true, High: high + 32767, Since: high + 32767, Off: munge.Nums{Seq: 1, Pic: 1}, Out: s.Out})
	}
}

// Numbers go on below 0, and above 65535.
func TestHighGoesOn(t *testing.T) {
	for _, c := range []struct {
		high int64
		seq  uint16
		n    int64
	}{
		{-1, 0, 0},
		{-1, 65535, -1},
		{-3, 65534, -2},
		{-65536, 1, -65535},
		{-65537, 0, -65536},
		{-70000, 60000, -71072},
		{65535, 0, 65536},
		{65535, 2, 65538},
		{65536, 65535, 65535},
		{65536, 1, 65537},
		{131071, 0, 131072},
		{1 << 40, 1, 1<<40 + 1},
		{1 << 40, 65535, 1<<40 - 1},
		{-1 << 40, 1, -1<<40 + 1},
	} {
		s := munge.State{On: true, High: c.high, Since: c.high - 5, Out: munge.Nums{Time: 1}}
		in := munge.Nums{Seq: c.seq, Time: 9, Pic: 2, Tl0: 3}
		switch {
		case c.n > c.high:
			sends(t, s, in, munge.State{On: true, High: c.n, Since: s.Since, Out: in}, in)
			drops(t, s, in, false, munge.State{On: true, High: c.n, Since: c.n, Off: munge.Nums{Seq: 1}, Out: s.Out})
		case c.n > s.Since:
			sends(t, s, in, s, in)
			drops(t, s, in, false, s)
		default:
			refuses(t, s, in)
			drops(t, s, in, false, s)
		}
	}
}

// A packet ahead is told as of no time behind Out's; half of the way round is not behind.
func TestTimeWouldBeBehind(t *testing.T) {
	for _, off := range []uint32{0, 1, 5000, 1 << 31, math.MaxUint32} {
		for _, last := range times {
			for _, c := range []struct{ more, told uint32 }{
				{0, 0},
				{1, 1},
				{3000, 3000},
				{1<<31 - 1, 1<<31 - 1},
				{1 << 31, 1 << 31}, // half of the way round
				{1<<31 + 1, 0},
				{math.MaxUint32 - 2999, 0},
				{math.MaxUint32, 0},
			} {
				s := munge.State{On: true, High: 100, Since: 100, Off: munge.Nums{Time: off}, Out: munge.Nums{Seq: 100, Time: last}}
				next := s
				next.High = 101
				next.Out = munge.Nums{Seq: 101, Time: last + c.told, Pic: 5, Tl0: 6}
				sends(t, s, munge.Nums{Seq: 101, Time: last + c.more + off, Pic: 5, Tl0: 6}, next, next.Out)
			}
		}
	}
}

// Pic and Tl0 are told, though they would be behind Out's.
func TestOthersMayBeBehind(t *testing.T) {
	next := stream()
	next.High = 101
	next.Out = munge.Nums{Seq: 91, Time: 8000, Pic: 19, Tl0: 29}
	sends(t, stream(), munge.Nums{Seq: 101, Time: 9000, Pic: 23, Tl0: 31}, next, next.Out)
}

// Where a packet ahead was told as of Out's time the next one is told as of its own.
func TestTimeGoesOn(t *testing.T) {
	s := munge.State{On: true, High: 1, Out: munge.Nums{Seq: 1, Time: 1000}}
	for _, c := range []struct {
		seq        uint16
		time, told uint32
	}{{2, 900, 1000}, {3, 999, 1000}, {4, 1000, 1000}, {5, 1001, 1001}, {6, 1000, 1001}, {7, 4000, 4000}} {
		next := munge.State{On: true, High: int64(c.seq), Out: munge.Nums{Seq: c.seq, Time: c.told}}
		s = sends(t, s, munge.Nums{Seq: c.seq, Time: c.time}, next, next.Out)
	}
}

// Each number by itself goes round where Off is taken from it, of packets ahead and behind.
func TestSendGoesRound(t *testing.T) {
	for _, c := range []struct{ in, off, told munge.Nums }{
		{munge.Nums{Seq: 2}, munge.Nums{Seq: 3}, munge.Nums{Seq: 65535}},
		{munge.Nums{Seq: 2}, munge.Nums{Seq: 2}, munge.Nums{}},
		{munge.Nums{Seq: 2}, munge.Nums{Seq: 65535}, munge.Nums{Seq: 3}},
		{munge.Nums{Seq: 2, Time: 2}, munge.Nums{Time: 3}, munge.Nums{Seq: 2, Time: math.MaxUint32}},
		{munge.Nums{Seq: 2, Time: math.MaxUint32}, munge.Nums{Time: math.MaxUint32 - 5}, munge.Nums{Seq: 2, Time: 5}},
		{munge.Nums{Seq: 2, Time: 5}, munge.Nums{Time: math.MaxUint32}, munge.Nums{Seq: 2, Time: 6}},
		{munge.Nums{Seq: 2, Pic: 2}, munge.Nums{Pic: 3}, munge.Nums{Seq: 2, Pic: 65535}},
		{munge.Nums{Seq: 2, Pic: 65535}, munge.Nums{Pic: 32768}, munge.Nums{Seq: 2, Pic: 32767}},
		{munge.Nums{Seq: 2, Pic: 2}, munge.Nums{Pic: 65535}, munge.Nums{Seq: 2, Pic: 3}},
		{munge.Nums{Seq: 2, Tl0: 2}, munge.Nums{Tl0: 3}, munge.Nums{Seq: 2, Tl0: 255}},
		{munge.Nums{Seq: 2, Tl0: 2}, munge.Nums{Tl0: 255}, munge.Nums{Seq: 2, Tl0: 3}},
		{munge.Nums{Seq: 2, Tl0: 255}, munge.Nums{Tl0: 255}, munge.Nums{Seq: 2}},
	} {
		last := munge.Nums{Seq: 7, Time: c.told.Time, Pic: 8, Tl0: 9} // no time is behind
		s := munge.State{On: true, High: 1, Since: 1, Off: c.off, Out: last}
		sends(t, s, c.in, munge.State{On: true, High: 2, Since: 1, Off: c.off, Out: c.told}, c.told)
		s.High = 2
		sends(t, s, c.in, s, c.told)
	}
}

// P13.3

func TestDropOfOneThatIsNotOn(t *testing.T) {
	off := stream()
	off.On = false
	for _, s := range []munge.State{{}, odd, off} {
		for n := range 65536 {
			drops(t, s, munge.Nums{Seq: uint16(n), Time: 9}, true, s)
			drops(t, s, munge.Nums{Seq: uint16(n), Time: 9}, false, s)
		}
	}
}

func TestDropAhead(t *testing.T) {
	for _, seq := range []uint16{101, 102, 5000, 32867} {
		in := munge.Nums{Seq: seq, Time: 9000, Pic: 77, Tl0: 88}
		next := stream()
		next.High, next.Since = int64(seq), int64(seq)
		next.Off.Seq = 11
		drops(t, stream(), in, false, next)
		next.Off.Pic = 5
		drops(t, stream(), in, true, next)
	}
}

func TestDropBehind(t *testing.T) {
	for _, seq := range []uint16{100, 99, 91, 90, 89, 0, 65535, 32869, 32868} {
		for _, begin := range []bool{false, true} {
			drops(t, stream(), munge.Nums{Seq: seq, Time: 9000, Pic: 77, Tl0: 88}, begin, stream())
		}
	}
}

func TestDropGoesRound(t *testing.T) {
	s := munge.State{On: true, High: 65535, Since: 1, Off: munge.Nums{Seq: 65535, Time: 5, Pic: 65535, Tl0: 255}}
	drops(t, s, munge.Nums{}, false, munge.State{On: true, High: 65536, Since: 65536, Off: munge.Nums{Time: 5, Pic: 65535, Tl0: 255}})
	drops(t, s, munge.Nums{}, true, munge.State{On: true, High: 65536, Since: 65536, Off: munge.Nums{Time: 5, Tl0: 255}})
}

// What is told behind a Drop: one is taken more of Seq, and of Pic where a frame began, and nothing of what was left out is told.
func TestSendBehindDrop(t *testing.T) {
	for _, begin := range []bool{false, true} {
		pic := int64(0)
		if begin {
			pic = 1
		}
		s, _ := munge.State{}.Switch(nums(100, 1000, 50, 60), 0)
		s = s.Drop(nums(101, 4000, 51, 60), begin)
		refuses(t, s, nums(101, 4000, 51, 60))
		refuses(t, s, nums(100, 1000, 50, 60))
		want := nums(101, 6000, 52-pic, 61)
		next := munge.State{On: true, High: 102, Since: 101, Off: nums(1, 0, pic, 0), Out: want}
		s = sends(t, s, nums(102, 6000, 52, 61), next, want)
		refuses(t, s, nums(101, 4000, 51, 60))
		sends(t, s, nums(102, 6000, 52, 61), s, want)
	}
}

// All three against the plain ones

// edges goes through states of numbers at their edges.
func edges(yield func(munge.State)) {
	some := []munge.Nums{
		{},
		{Seq: 1, Time: 3000, Pic: 1, Tl0: 1},
		{Seq: 65535, Time: math.MaxUint32, Pic: 65535, Tl0: 255},
		{Seq: 32768, Time: 1 << 31, Pic: 32768, Tl0: 128},
	}
	for _, high := range []int64{-65537, -32768, -1, 0, 1, 100, 32767, 32768, 65535, 65536, 1 << 40} {
		for _, below := range []int64{-1, 0, 1, 2, 32767, 32768, 32769, 65536} {
			for _, off := range some {
				for _, out := range some {
					for _, on := range []bool{false, true} {
						yield(munge.State{On: on, High: high, Since: high - below, Off: off, Out: out})
					}
				}
			}
		}
	}
}

func TestEdges(t *testing.T) {
	edges(func(s munge.State) {
		for i, seq := range seqs {
			for j, time := range times {
				each(t, s, munge.Nums{Seq: seq, Time: time, Pic: seqs[(i+j)%len(seqs)], Tl0: tl0s[(i+2*j)%len(tl0s)]}, times[(i+j)%len(times)])
			}
		}
	})
}

// All Seqs of several states.
func TestEachSeq(t *testing.T) {
	for _, high := range []int64{-1, 0, 100, 32768, 65535, 65600} {
		for _, since := range []int64{high, high - 1, high - 10, high - 32768, high - 50000} {
			s := stream()
			s.High, s.Since = high, since
			for n := range 65536 {
				each(t, s, munge.Nums{Seq: uint16(n), Time: 6000, Pic: uint16(n), Tl0: uint8(n)}, uint32(n))
			}
		}
	}
}

// anyNums are numbers as chance has them, often those at their ends.
func anyNums(chance *rand.Rand) munge.Nums {
	n := munge.Nums{Seq: uint16(chance.Uint32()), Time: chance.Uint32(), Pic: uint16(chance.Uint32()), Tl0: uint8(chance.Uint32())}
	if chance.IntN(2) == 0 {
		n.Seq = seqs[chance.IntN(len(seqs))]
	}
	if chance.IntN(2) == 0 {
		n.Time = times[chance.IntN(len(times))]
	}
	return n
}

func TestManyStates(t *testing.T) {
	chance := rand.New(rand.NewPCG(13, 1))
	for range 200000 {
		s := munge.State{On: chance.IntN(8) > 0, High: chance.Int64N(1<<20) - 1<<19, Off: anyNums(chance), Out: anyNums(chance)}
		s.Since = s.High - chance.Int64N(70000) + 100
		in := anyNums(chance)
		if chance.IntN(2) == 0 {
			in.Seq = uint16(s.High + chance.Int64N(7) - 3)
		}
		each(t, s, in, chance.Uint32())
	}
}

// Rows of calls by chance, each state the one behind the call ahead.
func TestManyCalls(t *testing.T) {
	chance := rand.New(rand.NewPCG(13, 2))
	for range 300 {
		var s munge.State
		n := chance.Int64N(round16)
		for range 500 {
			n += chance.Int64N(8) - 2
			in := nums(n, n*100+chance.Int64N(400), n/3, n/9)
			each(t, s, in, 3000)
			switch chance.IntN(20) {
			case 0:
				s, _ = s.Switch(in, 3000)
			case 1, 2, 3, 4, 5:
				s = s.Drop(in, chance.IntN(2) == 0)
			default:
				s, _, _ = s.Send(in)
			}
		}
	}
}

// States that no calls told: some answer, and no panic.
func TestOddStates(t *testing.T) {
	far := []int64{math.MinInt64, math.MinInt64 + 1, -1 << 41, 1 << 41, math.MaxInt64 - 1, math.MaxInt64}
	for _, high := range far {
		for _, since := range far {
			for _, seq := range seqs {
				s := munge.State{On: true, High: high, Since: since}
				in := munge.Nums{Seq: seq}
				s.Switch(in, 1)
				s.Send(in)
				s.Drop(in, true)
			}
		}
	}
}

// P13.4

// row goes through packets one behind the other, from a number on, of each of which left tells whether it is left out, the first one aside; those that are told have Seqs one behind the other, from next on. It is the state, and the next Seq.
func row(t *testing.T, s munge.State, from int64, packets int, next uint16, left func(int) bool) (munge.State, uint16) {
	t.Helper()
	for i := range packets {
		n := from + int64(i)
		in := nums(n, n*1000, n/2, n/5)
		if i > 0 && left(i) {
			s = s.Drop(in, n%2 == 0)
			continue
		}
		var out munge.Nums
		told := true
		if i == 0 {
			s, out = s.Switch(in, 3000)
		} else {
			s, out, told = s.Send(in)
		}
		if !told || out.Seq != next {
			t.Fatalf("from %d, packet %d: %d, %t, not %d", from, i, out.Seq, told, next)
		}
		next++
	}
	return s, next
}

// lefts are ways in which packets are left out.
func lefts() []func(int) bool {
	return []func(int) bool{
		func(i int) bool { return false },
		func(i int) bool { return true },
		func(i int) bool { return i%2 == 1 },
		func(i int) bool { return i%3 > 0 },
		func(i int) bool { return i%7 == 0 },
		func(i int) bool { return i/10%2 == 0 },
		func(i int) bool { return i == 1 },
	}
}

func TestRows(t *testing.T) {
	for _, from := range []int64{0, 1, 100, 32700, 32767, 32768, 65400, 65500, 65535} {
		for _, left := range lefts() {
			row(t, munge.State{}, from, 300, uint16(from), left)
		}
	}
}

// Each way of leaving out some of ten packets, over the end of the numbers.
func TestEachRow(t *testing.T) {
	for bits := range 1 << 10 {
		for _, from := range []int64{7, 65530} {
			row(t, munge.State{}, from, 11, uint16(from), func(i int) bool { return bits>>(i-1)&1 == 1 })
		}
	}
}

// Behind a Switch the Seqs go on, whatever number the other stream has.
func TestRowsBehindSwitch(t *testing.T) {
	for _, first := range []int64{0, 5, 65500} {
		for _, left := range lefts() {
			s, next := row(t, munge.State{}, first, 50, uint16(first), left)
			for _, from := range []int64{0, 5, 5, 32768, 65500, 65535, 40000, 39999, 40001} {
				s, next = row(t, s, from, 60, next, left)
			}
		}
	}
}

// A stream that goes round several times.
func TestLongRow(t *testing.T) {
	for _, left := range lefts() {
		row(t, munge.State{}, 65000, 200000, 65000, left)
	}
}

// seen are Seqs that were told.
type seen map[uint16]int64

// once tells a Seq, that was not told yet.
func (l seen) once(t *testing.T, out munge.Nums, n int64) {
	t.Helper()
	if was, twice := l[out.Seq]; twice {
		t.Fatalf("%d is told of %d, and of %d", out.Seq, was, n)
	}
	l[out.Seq] = n
}

// mixed goes through packets of those numbers, begun by a Switch of the first one; some are left out. No Seq is told twice.
func mixed(t *testing.T, s munge.State, l seen, numbers []int64, left func(int64) bool) munge.State {
	t.Helper()
	for i, n := range numbers {
		in := nums(n, n*1000, n, n)
		var out munge.Nums
		told := true
		switch {
		case i == 0:
			s, out = s.Switch(in, 3000)
		case left(n):
			s, told = s.Drop(in, n%2 == 0), false
		default:
			s, out, told = s.Send(in)
		}
		if told {
			l.once(t, out, n)
		}
	}
	return s
}

// orders goes through all orders of numbers.
func orders(l []int64, done int, yield func([]int64)) {
	if done == len(l) {
		yield(l)
		return
	}
	for i := done; i < len(l); i++ {
		l[done], l[i] = l[i], l[done]
		orders(l, done+1, yield)
		l[done], l[i] = l[i], l[done]
	}
}

// All orders of six packets, with each way of leaving out some of them.
func TestEachMixedRow(t *testing.T) {
	for _, from := range []int64{100, 65533} {
		var l []int64
		for i := range int64(6) {
			l = append(l, from+i)
		}
		orders(l, 0, func(numbers []int64) {
			for bits := range 1 << 6 {
				mixed(t, munge.State{}, seen{}, numbers, func(n int64) bool { return bits>>(n-from)&1 == 1 })
			}
		})
	}
}

// Packets come mixed, near their places, each once; other streams begin now and then.
func TestManyMixedRows(t *testing.T) {
	chance := rand.New(rand.NewPCG(13, 4))
	for range 200 {
		var s munge.State
		l := seen{}
		for range 4 {
			from := chance.Int64N(round16)
			var numbers []int64
			for i := range int64(1000) {
				numbers = append(numbers, from+i)
			}
			reach := 1 + chance.IntN(40)
			for i := range numbers {
				j := min(i+chance.IntN(reach), len(numbers)-1)
				numbers[i], numbers[j] = numbers[j], numbers[i]
			}
			left := map[int64]bool{}
			often := chance.IntN(5)
			for _, n := range numbers {
				left[n] = chance.IntN(5) < often
			}
			s = mixed(t, s, l, numbers, func(n int64) bool { return left[n] })
		}
	}
}

// A packet behind that is left out stays a gap: all others are told with their own numbers.
func TestGapStays(t *testing.T) {
	s, _ := munge.State{}.Switch(nums(10, 0, 0, 0), 0)
	s, _, _ = s.Send(nums(13, 0, 0, 0))
	s = drops(t, s, nums(12, 0, 0, 0), true, s)
	sends(t, s, nums(11, 0, 0, 0), s, nums(11, 0, 0, 0))
	next := s
	next.High, next.Out = 14, nums(14, 0, 0, 0)
	sends(t, s, nums(14, 0, 0, 0), next, next.Out)
}

// The chapter's example

func TestExampleOfTheChapter(t *testing.T) {
	s := switches(t, munge.State{}, munge.Nums{Seq: 100}, 3000, munge.State{On: true, High: 100, Since: 100, Out: munge.Nums{Seq: 100}}, munge.Nums{Seq: 100})
	s = drops(t, s, munge.Nums{Seq: 101}, false, munge.State{On: true, High: 101, Since: 101, Off: munge.Nums{Seq: 1}, Out: munge.Nums{Seq: 100}})
	sends(t, s, munge.Nums{Seq: 102}, munge.State{On: true, High: 102, Since: 101, Off: munge.Nums{Seq: 1}, Out: munge.Nums{Seq: 101}}, munge.Nums{Seq: 101})
}

func ExampleState() {
	var s munge.State
	s, first := s.Switch(munge.Nums{Seq: 100}, 3000)
	s = s.Drop(munge.Nums{Seq: 101}, false)
	_, second, told := s.Send(munge.Nums{Seq: 102})
	fmt.Println(first.Seq, second.Seq, told)
	// Output: 100 101 true
}
