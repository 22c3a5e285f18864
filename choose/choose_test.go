package choose_test

import (
	"fmt"
	"math"
	"math/rand/v2"
	"testing"

	"louver/choose"
)

// plain is what is done with a packet, written in the order of the chapter's words, field by field.
func plain(s choose.State, in choose.In, want choose.Want) (choose.State, int) {
	ofStream := s.On && in.From == s.From && in.Layer == s.Layer
	wanted := in.From == want.From && in.Layer == want.Layer
	if in.HasTid && in.Tid > want.Tid {
		wanted = false
	}
	if wanted && !ofStream {
		if in.Begin && in.Whole {
			return choose.State{On: true, From: want.From, Layer: want.Layer, Tid: want.Tid}, choose.Switch
		}
		return s, choose.Leave
	}
	if !ofStream {
		return s, choose.Leave
	}
	next := s
	if in.Begin {
		if in.Whole || want.Tid < s.Tid {
			next.Tid = want.Tid
		} else if in.HasTid && in.Sync && in.Tid > s.Tid && in.Tid <= want.Tid {
			next.Tid = in.Tid
		}
	}
	if in.HasTid && in.Tid > next.Tid {
		return next, choose.Drop
	}
	return next, choose.Send
}

// take tells whether a packet leaves that state, and that is done with it.
func take(t *testing.T, s choose.State, in choose.In, want choose.Want, next choose.State, kind int) choose.State {
	t.Helper()
	was := s
	got, gotKind := s.Take(in, want)
	if got != next || gotKind != kind {
		t.Fatalf("%+v, %+v, want %+v: %+v, %d, not %+v, %d", s, in, want, got, gotKind, next, kind)
	}
	if s != was {
		t.Fatalf("what was asked is %+v, not %+v", s, was)
	}
	return got
}

// leaves tells whether a packet is left, and the state as it was.
func leaves(t *testing.T, s choose.State, in choose.In, want choose.Want) {
	t.Helper()
	take(t, s, in, want, s, choose.Leave)
}

var bools = []bool{false, true}

// each goes through all packets of that source and layer, whose Tid is one of those.
func each(from, layer int, tids []int, yield func(choose.In)) {
	for bits := range 16 {
		for _, tid := range tids {
			yield(choose.In{
				From: from, Layer: layer, Tid: tid,
				Begin: bits&1 != 0, Whole: bits&2 != 0, HasTid: bits&4 != 0, Sync: bits&8 != 0,
			})
		}
	}
}

// states goes through states of the sources and layers 0 and 1, that are On, and that aren't.
func states(tids []int, yield func(choose.State)) {
	for bits := range 8 {
		for _, tid := range tids {
			yield(choose.State{On: bits&1 != 0, From: bits >> 1 & 1, Layer: bits >> 2, Tid: tid})
		}
	}
}

// wants goes through what may be wanted of the sources and layers 0 and 1.
func wants(tids []int, yield func(choose.Want)) {
	for bits := range 4 {
		for _, tid := range tids {
			yield(choose.Want{From: bits & 1, Layer: bits >> 1, Tid: tid})
		}
	}
}

var tids = []int{0, 1, 2, 3}

// The kinds' numbers

func TestKinds(t *testing.T) {
	if choose.Leave != 0 || choose.Send != 1 || choose.Drop != 2 || choose.Switch != 3 {
		t.Error(choose.Leave, choose.Send, choose.Drop, choose.Switch)
	}
}

// P12.1: of all states, packets and what is wanted, what the plain one tells.

func TestEachPacket(t *testing.T) {
	states(tids, func(s choose.State) {
		wants(tids, func(want choose.Want) {
			for place := range 4 {
				each(place&1, place>>1, tids, func(in choose.In) {
					next, kind := plain(s, in, want)
					take(t, s, in, want, next, kind)
				})
			}
		})
	})
}

// P12.1: a packet that is wanted, and not of the stream

func TestNotOn(t *testing.T) {
	want := choose.Want{From: 4, Layer: 2, Tid: 1}
	on := choose.State{On: true, From: 4, Layer: 2, Tid: 1}
	for _, s := range []choose.State{
		{},
		{From: 4, Layer: 2, Tid: 1}, // it tells what is wanted, but isn't On
		{From: 4, Layer: 2, Tid: 3},
		{From: 7, Layer: 1, Tid: 2},
	} {
		in := choose.In{From: 4, Layer: 2}
		leaves(t, s, in, want)
		in.Begin = true
		leaves(t, s, in, want)
		in.Whole = true
		take(t, s, in, want, on, choose.Switch)
		in.Begin = false
		leaves(t, s, in, want)
		take(t, s, choose.In{From: 4, Layer: 2, Begin: true, Whole: true, Sync: true}, want, on, choose.Switch)
		take(t, s, choose.In{From: 4, Layer: 2, Begin: true, Whole: true, HasTid: true}, want, on, choose.Switch)
	}
}

// What isn't wanted begins no stream, though the state tells of it, as it isn't On.
func TestNotOnAndNotWanted(t *testing.T) {
	s := choose.State{From: 3, Layer: 1, Tid: 2}
	want := choose.Want{From: 4, Layer: 2, Tid: 3}
	for _, place := range []choose.In{{From: 3, Layer: 1}, {From: 4, Layer: 1}, {From: 3, Layer: 2}, {From: 5, Layer: 2}, {From: 2, Layer: 4}} {
		each(place.From, place.Layer, tids, func(in choose.In) {
			leaves(t, s, in, want)
			leaves(t, choose.State{}, in, want)
		})
	}
}

// What is wanted has another source than the stream, another layer, or both.
func TestOtherStream(t *testing.T) {
	s := choose.State{On: true, From: 4, Layer: 2, Tid: 3}
	for _, want := range []choose.Want{
		{From: 5, Layer: 2, Tid: 1},
		{From: 4, Layer: 1, Tid: 1},
		{From: 4, Layer: 0, Tid: 3},
		{From: 2, Layer: 4, Tid: 0},
	} {
		next := choose.State{On: true, From: want.From, Layer: want.Layer, Tid: want.Tid}
		each(want.From, want.Layer, []int{0}, func(in choose.In) {
			if in.Begin && in.Whole {
				take(t, s, in, want, next, choose.Switch)
			} else {
				leaves(t, s, in, want)
			}
		})
	}
}

// A Switch lets the state have want's Tid, whatever the packet's and the state's are.
func TestTidBehindSwitch(t *testing.T) {
	for _, on := range bools {
		for _, before := range tids {
			for _, wanted := range tids {
				s := choose.State{On: on, From: 1, Layer: 0, Tid: before}
				want := choose.Want{From: 1, Layer: 1, Tid: wanted}
				next := choose.State{On: true, From: 1, Layer: 1, Tid: wanted}
				for _, tid := range tids {
					in := choose.In{From: 1, Layer: 1, Begin: true, Whole: true, Tid: tid}
					take(t, s, in, want, next, choose.Switch) // without HasTid its Tid plays no part
					in.HasTid, in.Sync = true, true
					if tid <= wanted {
						take(t, s, in, want, next, choose.Switch)
					}
				}
			}
		}
	}
}

// What is wanted is up to want's Tid: a whole frame above it begins no stream.
func TestWholeAboveWhatIsWanted(t *testing.T) {
	for _, s := range []choose.State{{}, {From: 1, Layer: 1, Tid: 3}, {On: true, From: 1, Layer: 0, Tid: 3}, {On: true, From: 0, Layer: 1, Tid: 3}} {
		for _, sync := range bools {
			in := choose.In{From: 1, Layer: 1, Begin: true, Whole: true, HasTid: true, Tid: 2, Sync: sync}
			leaves(t, s, in, choose.Want{From: 1, Layer: 1, Tid: 0})
			leaves(t, s, in, choose.Want{From: 1, Layer: 1, Tid: 1})
			take(t, s, in, choose.Want{From: 1, Layer: 1, Tid: 2}, choose.State{On: true, From: 1, Layer: 1, Tid: 2}, choose.Switch)
			take(t, s, in, choose.Want{From: 1, Layer: 1, Tid: 3}, choose.State{On: true, From: 1, Layer: 1, Tid: 3}, choose.Switch)
		}
	}
}

// P12.1: all others

func TestNeitherOfTheStreamNorWanted(t *testing.T) {
	s := choose.State{On: true, From: 4, Layer: 2, Tid: 1}
	for _, want := range []choose.Want{{From: 4, Layer: 2, Tid: 3}, {From: 5, Layer: 1, Tid: 3}, {From: 5, Layer: 2, Tid: 0}} {
		for _, place := range []choose.In{{From: 4, Layer: 1}, {From: 4, Layer: 0}, {From: 6, Layer: 2}, {From: 2, Layer: 4}, {From: 6, Layer: 0}, {From: -4, Layer: -2}} {
			each(place.From, place.Layer, tids, func(in choose.In) { leaves(t, s, in, want) })
		}
	}
}

// P12.1: a packet of the stream

// stream is a state that is On, with that Tid.
func stream(tid int) choose.State { return choose.State{On: true, From: 4, Layer: 2, Tid: tid} }

// wantsOf are wants up to that temporal layer, of the stream, and of others: what is wanted of the stream's packets is the same.
func wantsOf(tid int) []choose.Want {
	return []choose.Want{
		{From: 4, Layer: 2, Tid: tid},
		{From: 4, Layer: 1, Tid: tid},
		{From: 5, Layer: 2, Tid: tid},
		{From: 2, Layer: 4, Tid: tid},
	}
}

// follow tells whether a packet of the stream leaves it that Tid, and that is done with it.
func follow(t *testing.T, before, wanted int, in choose.In, after, kind int) {
	t.Helper()
	in.From, in.Layer = 4, 2
	for _, want := range wantsOf(wanted) {
		take(t, stream(before), in, want, stream(after), kind)
	}
}

// Behind Begin and Whole it is want's, be it higher, equal or lower.
func TestBeginAndWhole(t *testing.T) {
	for before := range 4 {
		for wanted := range 4 {
			for _, sync := range bools {
				follow(t, before, wanted, choose.In{Begin: true, Whole: true, Sync: sync}, wanted, choose.Send)
				follow(t, before, wanted, choose.In{Begin: true, Whole: true, Sync: sync, Tid: 3}, wanted, choose.Send)
				for tid := range 4 {
					kind := choose.Send
					if tid > wanted {
						kind = choose.Drop
					}
					follow(t, before, wanted, choose.In{Begin: true, Whole: true, HasTid: true, Tid: tid, Sync: sync}, wanted, kind)
				}
			}
		}
	}
}

// Behind Begin alone it is want's where that is lower, and as it was where it is equal or higher.
func TestBeginAlone(t *testing.T) {
	for before := range 4 {
		for wanted := range 4 {
			after := min(before, wanted)
			follow(t, before, wanted, choose.In{Begin: true}, after, choose.Send)
			follow(t, before, wanted, choose.In{Begin: true, Tid: 3}, after, choose.Send)
			for tid := range 4 {
				kind := choose.Send
				if tid > after {
					kind = choose.Drop
				}
				follow(t, before, wanted, choose.In{Begin: true, HasTid: true, Tid: tid}, after, kind)
			}
		}
	}
}

// With Sync alone nothing rises, as the packet's Tid is none.
func TestBeginAndSync(t *testing.T) {
	for before := range 4 {
		for wanted := range 4 {
			for tid := range 4 {
				follow(t, before, wanted, choose.In{Begin: true, Sync: true, Tid: tid}, min(before, wanted), choose.Send)
			}
		}
	}
}

// With Begin, HasTid and Sync it is the packet's, where that is above the state's, and not above want's.
func TestBeginWhereAHigherOneCanBegin(t *testing.T) {
	for _, c := range []struct{ before, wanted, tid, after, kind int }{
		{1, 3, 0, 1, choose.Send}, // below the state's
		{1, 3, 1, 1, choose.Send}, // equal to it
		{0, 3, 0, 0, choose.Send},
		{1, 3, 2, 2, choose.Send}, // between it and want's
		{0, 3, 1, 1, choose.Send},
		{0, 3, 2, 2, choose.Send},
		{1, 3, 3, 3, choose.Send}, // equal to want's
		{0, 2, 2, 2, choose.Send},
		{0, 1, 1, 1, choose.Send},
		{1, 2, 3, 1, choose.Drop}, // above want's
		{0, 1, 2, 0, choose.Drop},
		{0, 0, 1, 0, choose.Drop},
		{2, 2, 2, 2, choose.Send}, // want's is the state's
		{2, 2, 1, 2, choose.Send},
		{2, 2, 3, 2, choose.Drop},
		{3, 1, 0, 1, choose.Send}, // want's is lower
		{3, 1, 1, 1, choose.Send},
		{3, 1, 2, 1, choose.Drop},
		{3, 1, 3, 1, choose.Drop},
		{2, 1, 3, 1, choose.Drop},
	} {
		follow(t, c.before, c.wanted, choose.In{Begin: true, HasTid: true, Tid: c.tid, Sync: true}, c.after, c.kind)
	}
}

// Without Begin the state is as it was, whatever else is told.
func TestWithoutBegin(t *testing.T) {
	for before := range 4 {
		for wanted := range 4 {
			each(4, 2, tids, func(in choose.In) {
				if in.Begin {
					return
				}
				kind := choose.Send
				if in.HasTid && in.Tid > before {
					kind = choose.Drop
				}
				follow(t, before, wanted, in, before, kind)
			})
		}
	}
}

// A stream that is wanted goes on without a Switch, and so does one that isn't wanted any more, till another one begins.
func TestStreamGoesOn(t *testing.T) {
	want := choose.Want{From: 1, Layer: 0, Tid: 3}
	s := choose.State{}
	begin := choose.In{From: 1, Layer: 0, Begin: true, Whole: true, HasTid: true}
	more := choose.In{From: 1, Layer: 0, HasTid: true, Tid: 3}
	s = take(t, s, begin, want, choose.State{On: true, From: 1, Layer: 0, Tid: 3}, choose.Switch)
	s = take(t, s, begin, want, s, choose.Send)
	s = take(t, s, more, want, s, choose.Send)

	want = choose.Want{From: 1, Layer: 1, Tid: 2}
	s = take(t, s, more, want, s, choose.Send) // the frame goes on as it began
	s = take(t, s, choose.In{From: 1, Layer: 1}, want, s, choose.Leave)
	s = take(t, s, choose.In{From: 1, Layer: 0, Begin: true}, want, choose.State{On: true, From: 1, Layer: 0, Tid: 2}, choose.Send)
	s = take(t, s, more, want, s, choose.Drop)
	s = take(t, s, choose.In{From: 1, Layer: 1, Begin: true, Whole: true}, want, choose.State{On: true, From: 1, Layer: 1, Tid: 2}, choose.Switch)
	s = take(t, s, begin, want, s, choose.Leave)
	s = take(t, s, more, want, s, choose.Leave)
	take(t, s, choose.In{From: 1, Layer: 1, HasTid: true, Tid: 2}, want, s, choose.Send)
}

// Sources, layers and temporal layers that there are none of: what is told holds for them too.
func TestOddNumbers(t *testing.T) {
	odd := []int{math.MinInt, -1, 0, 4, math.MaxInt}
	for _, from := range odd {
		for _, layer := range odd {
			for _, before := range odd {
				for _, wanted := range odd {
					for _, s := range []choose.State{{}, {On: true, From: from, Layer: layer, Tid: before}, {On: true, From: 4, Layer: -1, Tid: before}} {
						want := choose.Want{From: from, Layer: layer, Tid: wanted}
						each(from, layer, odd, func(in choose.In) {
							next, kind := plain(s, in, want)
							take(t, s, in, want, next, kind)
						})
					}
				}
			}
		}
	}
}

// P12.2

// asks tells whether a whole frame must come first, or not; it asks twice, as who asks changes nothing.
func asks(t *testing.T, s choose.State, want choose.Want, first bool) {
	t.Helper()
	was := s
	for range 2 {
		if got := s.Asks(want); got != first {
			t.Fatalf("%+v, want %+v: %t", s, want, got)
		}
	}
	if s != was {
		t.Fatalf("what was asked is %+v, not %+v", s, was)
	}
}

func TestAsks(t *testing.T) {
	for _, tid := range []int{math.MinInt, -1, 0, 1, 2, 3, 4, math.MaxInt} { // Tid plays no part
		s := stream(2)
		asks(t, s, choose.Want{From: 4, Layer: 2, Tid: tid}, false)
		asks(t, s, choose.Want{From: 5, Layer: 2, Tid: tid}, true)
		asks(t, s, choose.Want{From: 3, Layer: 2, Tid: tid}, true)
		asks(t, s, choose.Want{From: 4, Layer: 1, Tid: tid}, true)
		asks(t, s, choose.Want{From: 4, Layer: 3, Tid: tid}, true)
		asks(t, s, choose.Want{From: 2, Layer: 4, Tid: tid}, true)
		asks(t, s, choose.Want{Tid: tid}, true)
		s.On = false
		asks(t, s, choose.Want{From: 4, Layer: 2, Tid: tid}, true)
		asks(t, s, choose.Want{From: 5, Layer: 2, Tid: tid}, true)
		asks(t, s, choose.Want{From: 4, Layer: 1, Tid: tid}, true)
		asks(t, choose.State{}, choose.Want{Tid: tid}, true)
		asks(t, choose.State{On: true}, choose.Want{Tid: tid}, false)
	}
}

func TestEachAsks(t *testing.T) {
	states(tids, func(s choose.State) {
		wants(tids, func(want choose.Want) {
			asks(t, s, want, !s.On || s.From != want.From || s.Layer != want.Layer)
		})
	})
}

// Behind a Switch no whole frame must come first; it must, till there is one.
func TestAsksTillSwitch(t *testing.T) {
	want := choose.Want{From: 1, Layer: 1, Tid: 1}
	states(tids, func(s choose.State) {
		each(1, 1, tids, func(in choose.In) {
			next, kind := s.Take(in, want)
			asks(t, next, want, s.Asks(want) && kind != choose.Switch)
		})
	})
}

// P12.3

// frame is a row of packets of one frame, all of one temporal layer, of which the first one alone tells Begin; only the first one's Whole and Sync may matter, so the others tell none, or all.
func frame(first choose.In, packets int, loud bool) []choose.In {
	l := []choose.In{first}
	for range packets - 1 {
		more := first
		more.Begin = false
		more.Whole, more.Sync = loud, loud
		l = append(l, more)
	}
	return l
}

// heads goes through all first packets of frames of that source and layer.
func heads(from, layer int, yield func(choose.In)) {
	each(from, layer, tids, func(in choose.In) {
		if in.Begin {
			yield(in)
		}
	})
}

func isSent(kind int) bool { return kind == choose.Send || kind == choose.Switch }

// send lets a frame's packets come, what is wanted of each one told beside it; all of them are sent, or none.
func send(t *testing.T, s choose.State, l []choose.In, want func(int) choose.Want) choose.State {
	t.Helper()
	all := false
	for i, in := range l {
		next, kind := s.Take(in, want(i))
		if kind == choose.Switch && (i > 0 || !in.Begin || !in.Whole) {
			t.Fatalf("%+v, packet %d, %+v: Switch", s, i, in)
		}
		if i == 0 {
			all = isSent(kind)
		}
		if isSent(kind) != all {
			t.Fatalf("%+v, packet %d, %+v, want %+v: kind %d, but the first one's was sent: %t", s, i, in, want(i), kind, all)
		}
		if kind == choose.Leave && next != s || i > 0 && next != s {
			t.Fatalf("%+v, packet %d, %+v: %+v", s, i, in, next)
		}
		s = next
	}
	return s
}

func TestWholeFramesOrNone(t *testing.T) {
	states(tids, func(s choose.State) {
		wants(tids, func(want choose.Want) {
			for place := range 4 {
				heads(place&1, place>>1, func(first choose.In) {
					for _, loud := range bools {
						send(t, s, frame(first, 3, loud), func(int) choose.Want { return want })
					}
				})
			}
		})
	})
}

// What is wanted may be another thing in the midst of a frame.
func TestWholeFramesWhereWantsChange(t *testing.T) {
	some := []int{0, 2}
	states(some, func(s choose.State) {
		wants(some, func(a choose.Want) {
			wants(some, func(b choose.Want) {
				heads(1, 0, func(first choose.In) {
					send(t, s, frame(first, 3, true), func(i int) choose.Want {
						if i == 0 {
							return a
						}
						return b
					})
				})
			})
		})
	})
}

// The first packet's fate, and the others', of frames of more temporal layers than one.
func TestFrameOfMoreTemporalLayers(t *testing.T) {
	want := choose.Want{From: 4, Layer: 2, Tid: 1}
	s := stream(1)
	in := choose.In{From: 4, Layer: 2, Begin: true, HasTid: true}
	s = take(t, s, in, want, s, choose.Send)
	in.Begin = false
	for _, c := range []struct{ tid, kind int }{{2, choose.Drop}, {1, choose.Send}, {3, choose.Drop}, {0, choose.Send}} {
		in.Tid = c.tid
		s = take(t, s, in, want, s, c.kind)
	}
}

// anyFrame is the first packet of a frame, as chance has it.
func anyFrame(chance *rand.Rand) choose.In {
	return choose.In{
		From: chance.IntN(2), Layer: chance.IntN(3), Begin: true, Whole: chance.IntN(4) == 0,
		HasTid: chance.IntN(4) > 0, Tid: chance.IntN(4), Sync: chance.IntN(2) == 0,
	}
}

// Frames come one behind the other, what is wanted changes now and then: another stream begins at a frame that leans on none, and each frame is sent whole, or not at all.
func TestManyFrames(t *testing.T) {
	chance := rand.New(rand.NewPCG(12, 3))
	for range 300 {
		var s choose.State
		var want choose.Want
		for range 300 {
			if chance.IntN(10) == 0 {
				want = choose.Want{From: chance.IntN(2), Layer: chance.IntN(3), Tid: chance.IntN(4)}
			}
			first := anyFrame(chance)
			before := s
			s = send(t, s, frame(first, 1+chance.IntN(4), chance.IntN(2) == 0), func(int) choose.Want { return want })
			if !before.Asks(choose.Want{From: s.From, Layer: s.Layer}) || !s.On {
				continue
			}
			if !first.Whole || s != (choose.State{On: true, From: want.From, Layer: want.Layer, Tid: want.Tid}) {
				t.Fatalf("%+v, %+v, want %+v: %+v", before, first, want, s)
			}
		}
	}
}

// Packets just as chance has them: what is sent is of the stream, and no other stream begins but by a Switch.
func TestManyPackets(t *testing.T) {
	chance := rand.New(rand.NewPCG(12, 4))
	for range 100 {
		var s choose.State
		for range 500 {
			want := choose.Want{From: chance.IntN(2), Layer: chance.IntN(2), Tid: chance.IntN(4)}
			in := anyFrame(chance)
			in.Layer, in.Begin = chance.IntN(2), chance.IntN(3) == 0
			next, kind := plain(s, in, want)
			next = take(t, s, in, want, next, kind)
			other := s.On != next.On || s.From != next.From || s.Layer != next.Layer
			if other && (kind != choose.Switch || !in.Begin || !in.Whole) {
				t.Fatalf("%+v, %+v: %+v, %d", s, in, next, kind)
			}
			if isSent(kind) && (!next.On || next.From != in.From || next.Layer != in.Layer || in.HasTid && in.Tid > next.Tid) {
				t.Fatalf("%+v, %+v: %+v, %d", s, in, next, kind)
			}
			s = next
		}
	}
}

func ExampleState() {
	want := choose.Want{From: 1, Layer: 2, Tid: 1}
	var s choose.State
	fmt.Println(s.Asks(want))
	s, what := s.Take(choose.In{From: 1, Layer: 2, Begin: true, Whole: true}, want)
	fmt.Println(what == choose.Switch, s.Asks(want))
	fmt.Println(s.On, s.From, s.Layer, s.Tid)
	// Output:
	// true
	// true false
	// true 1 2 1
}
