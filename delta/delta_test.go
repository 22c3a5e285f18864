package delta_test

import (
	"fmt"
	"math"
	"math/rand/v2"
	"slices"
	"testing"

	"louver/api"
	"louver/delta"
)

// far are numbers that are far beyond what may be, of which some have lower bits that may be.
var far = []int{math.MinInt, math.MinInt + 1, math.MinInt32, -1<<32 + 1, -65535, -1000, -256, -16, -3, -2, -1, 1000, 1001, 65537, math.MaxInt32, 1<<32 + 1, 1<<32 + 2, 1<<32 + 3, math.MaxInt - 1, math.MaxInt}

// room is what may be, of all the most.
var room = delta.Conf{People: 16, Tracks: 16, Subs: 16, Slots: 64}

// all are Rights to do all.
const all = delta.MayPublish | delta.MaySubscribe

// kinds are all Kinds.
var kinds = []int{
	delta.Join, delta.Leave, delta.Publish, delta.Unpublish, delta.Replace,
	delta.Subscribe, delta.Unsubscribe, delta.Mute, delta.Unmute, delta.Select,
}

// Requests, each with what it hangs on alone.

func join(who, room, rights int) delta.Req {
	return delta.Req{Kind: delta.Join, Who: who, Room: room, Rights: rights}
}

func leave(who int) delta.Req { return delta.Req{Kind: delta.Leave, Who: who} }

func publish(who, track int, ssrcs ...uint32) delta.Req {
	return delta.Req{Kind: delta.Publish, Who: who, Track: track, SSRCs: ssrcs}
}

func unpublish(who, track int) delta.Req {
	return delta.Req{Kind: delta.Unpublish, Who: who, Track: track}
}

func replace(who, track int, ssrcs ...uint32) delta.Req {
	return delta.Req{Kind: delta.Replace, Who: who, Track: track, SSRCs: ssrcs}
}

func subscribe(who, track, layer, tid int) delta.Req {
	return delta.Req{Kind: delta.Subscribe, Who: who, Track: track, Layer: layer, Tid: tid}
}

func unsubscribe(who, track int) delta.Req {
	return delta.Req{Kind: delta.Unsubscribe, Who: who, Track: track}
}

func mute(who, track int) delta.Req { return delta.Req{Kind: delta.Mute, Who: who, Track: track} }

func unmute(who, track int) delta.Req { return delta.Req{Kind: delta.Unmute, Who: who, Track: track} }

func choose(who, track, layer, tid int) delta.Req {
	return delta.Req{Kind: delta.Select, Who: who, Track: track, Layer: layer, Tid: tid}
}

// few are four people, three tracks and three subs, in two rooms: 10 publishes 100 and 300, 30 publishes 200;
// 20, of their room, is sent 100 and 200, and 30 is sent 100; 40 is in another room.
func few(t *testing.T) delta.State {
	t.Helper()
	return behind(t, begun(t, room),
		join(30, 1, all), join(10, 1, all), join(40, 2, all), join(20, 1, all),
		publish(10, 300, 31, 32, 33), publish(30, 200, 21), publish(10, 100, 11, 12),
		subscribe(20, 200, 1, 1), subscribe(30, 100, 2, 2), subscribe(20, 100, 0, 3))
}

// TestFew: few is just what it says.
func TestFew(t *testing.T) {
	same(t, "few", few(t), delta.State{
		Conf:   room,
		People: []delta.Person{{Who: 10, Room: 1, Rights: 3}, {Who: 20, Room: 1, Rights: 3}, {Who: 30, Room: 1, Rights: 3}, {Who: 40, Room: 2, Rights: 3}},
		Tracks: []delta.Track{{Id: 100, Owner: 10, SSRCs: []uint32{11, 12}}, {Id: 200, Owner: 30, SSRCs: []uint32{21}}, {Id: 300, Owner: 10, SSRCs: []uint32{31, 32, 33}}},
		Subs:   []delta.Sub{{Who: 20, Track: 100, Tid: 3}, {Who: 20, Track: 200, Layer: 1, Tid: 1}, {Who: 30, Track: 100, Layer: 2, Tid: 2}},
	})
	sound(t, few(t))
}

func TestNumbers(t *testing.T) {
	for want, kind := range []int{delta.Join, delta.Leave, delta.Publish, delta.Unpublish, delta.Replace, delta.Subscribe, delta.Unsubscribe, delta.Mute, delta.Unmute, delta.Select} {
		if kind != want {
			t.Errorf("Kind %d, not %d", kind, want)
		}
	}
	if delta.MayPublish != 1 || delta.MaySubscribe != 2 {
		t.Errorf("Rights %d and %d", delta.MayPublish, delta.MaySubscribe)
	}
}

// P18.1

// news tells whether a Conf may be, where it should, and may not, where it shouldn't.
func news(t *testing.T, c delta.Conf, may bool) {
	t.Helper()
	for range 2 {
		if may {
			begun(t, c)
			continue
		}
		s, err := delta.New(c)
		if err != api.ErrArg {
			t.Fatalf("New of %v: error %d", c, err)
		}
		same(t, "New with an error", s, delta.State{})
	}
}

// with is a Conf of which one number is another one.
func with(c delta.Conf, place, n int) delta.Conf {
	*[]*int{&c.People, &c.Tracks, &c.Subs, &c.Slots}[place] = n
	return c
}

// highest are the highest numbers of a Conf.
var highest = []int{16, 16, 16, 64}

func TestNewOfEachNumber(t *testing.T) {
	for place, high := range highest {
		for _, others := range []delta.Conf{room, {People: 1, Tracks: 1, Subs: 1, Slots: 1}, {People: 3, Tracks: 4, Subs: 5, Slots: 6}} {
			for n := -300; n <= 300; n++ {
				news(t, with(others, place, n), n >= 1 && n <= high)
			}
			for _, n := range far {
				news(t, with(others, place, n), false)
			}
		}
	}
}

func TestNewOfAllMixes(t *testing.T) {
	ends := func(high int) []int { return []int{0, 1, high, high + 1} }
	for _, people := range ends(16) {
		for _, tracks := range ends(16) {
			for _, subs := range ends(16) {
				for _, slots := range ends(64) {
					may := people >= 1 && people <= 16 && tracks >= 1 && tracks <= 16 && subs >= 1 && subs <= 16 && slots >= 1 && slots <= 64
					news(t, delta.Conf{People: people, Tracks: tracks, Subs: subs, Slots: slots}, may)
				}
			}
		}
	}
	news(t, delta.Conf{}, false)
}

// Two states that New tells are two.
func TestNewInNewMemory(t *testing.T) {
	a, b := begun(t, room), begun(t, room)
	a = behind(t, a, join(1, 1, 3))
	same(t, "the other one", b, delta.State{Conf: room})
	writeOver(a)
	same(t, "a later one", begun(t, room), delta.State{Conf: room})
}

// gone tells whether of a just these are gone, in b.
func gone(t *testing.T, a, b delta.State, want ...delta.Sub) {
	t.Helper()
	x, y := roomy(a), roomy(b)
	got := delta.Gone(x, y)
	if !slices.Equal(got, want) || !slices.Equal(want, plainGone(a, b)) {
		t.Fatalf("gone of %v in %v: %v, not %v", a.Subs, b.Subs, got, want)
	}
	untouched(t, x, a)
	untouched(t, y, b)
	again := delta.Gone(x, y)
	over(again, markSub)
	untouched(t, x, a)
	untouched(t, y, b)
	writeOver(x)
	writeOver(y)
	if !slices.Equal(got, want) {
		t.Fatalf("behind writing over what was handed in: %v, not %v", got, want)
	}
}

func TestGone(t *testing.T) {
	a := few(t)
	gone(t, a, a)
	gone(t, a, few(t))
	gone(t, a, begun(t, room), a.Subs...)
	gone(t, begun(t, room), a)
	gone(t, begun(t, room), begun(t, room))
	gone(t, delta.State{}, delta.State{})
	gone(t, a, delta.State{}, a.Subs...)
	for i, x := range a.Subs {
		b := behind(t, a, unsubscribe(x.Who, x.Track))
		gone(t, a, b, x)
		gone(t, b, a)
		gone(t, b, begun(t, room), slices.Delete(slices.Clone(a.Subs), i, i+1)...)
		gone(t, a, behind(t, b, subscribe(x.Who, x.Track, 1, 0)))
	}
	gone(t, a, behind(t, a, leave(10)), a.Subs[0], a.Subs[2])
	gone(t, a, behind(t, a, leave(20)), a.Subs[0], a.Subs[1])
	gone(t, a, behind(t, a, leave(30)), a.Subs[1], a.Subs[2])
	gone(t, a, behind(t, a, leave(40)))
	gone(t, a, behind(t, a, unpublish(10, 100)), a.Subs[0], a.Subs[2])
}

// Who and Track alone tell which sub it is: not how it is sent, and not who is there.
func TestGoneLooksAtWhoAndTrackAlone(t *testing.T) {
	a := few(t)
	b := behind(t, a, mute(20, 100), choose(20, 200, 2, 0), choose(30, 100, 0, 0), mute(30, 100), replace(10, 100, 77))
	gone(t, a, b)
	gone(t, b, a)
	gone(t, b, begun(t, room), b.Subs...)
	c := delta.State{Subs: []delta.Sub{{Who: 20, Track: 100, Layer: 2}, {Who: 30, Track: 200}, {Who: 100, Track: 20}}}
	gone(t, a, c, a.Subs[1], a.Subs[2])
	gone(t, c, a, c.Subs[1], c.Subs[2])
}

func TestGoneByChance(t *testing.T) {
	r := rand.New(rand.NewPCG(18, 1))
	some := func() delta.State {
		var s delta.State
		for who := range 4 {
			for track := range 4 {
				if r.IntN(2) == 0 {
					s.Subs = append(s.Subs, delta.Sub{Who: who + 1, Track: track + 1, Layer: r.IntN(3), Tid: r.IntN(4), Muted: r.IntN(2) == 0})
				}
			}
		}
		return s
	}
	for range 2000 {
		a, b := some(), some()
		gone(t, a, b, plainGone(a, b)...)
	}
}

// P18.2

func TestKindsThatAreNone(t *testing.T) {
	for _, s := range []delta.State{begun(t, room), few(t)} {
		for _, kind := range append([]int{-10, -9, 10, 11, 12, 15, 16, 20, 255, 256, 257, 265}, far...) {
			for _, q := range []delta.Req{{}, join(5, 1, 3), leave(10), join(10, 1, 3), publish(10, 5, 5), unpublish(10, 100), subscribe(20, 300, 0, 0), choose(20, 100, 9, 9)} {
				q.Kind = kind
				does(t, s, q, api.ErrArg)
			}
		}
	}
}

func TestJoinAtItsEdges(t *testing.T) {
	for _, s := range []delta.State{begun(t, room), few(t)} {
		for who := -3; who <= 1010; who++ {
			taken := slices.ContainsFunc(s.People, func(p delta.Person) bool { return p.Who == who })
			switch {
			case who < 1 || who > 999:
				does(t, s, join(who, 1, 3), api.ErrArg)
			case taken:
				does(t, s, join(who, 1, 3), api.ErrTwice)
			default:
				does(t, s, join(who, 1, 3), api.OK)
			}
		}
		edges := func(n, low, high int, q delta.Req) {
			if n >= low && n <= high {
				does(t, s, q, api.OK)
			} else {
				does(t, s, q, api.ErrArg)
			}
		}
		for n := -20; n <= 40; n++ {
			edges(n, 1, 9, join(5, n, 3))
			edges(n, 0, 3, join(5, 1, n))
		}
		for _, n := range far {
			refuses(t, s, api.ErrArg, join(5, n, 3), join(5, 1, n))
			edges(n, 1, 999, join(n, 1, 3))
		}
	}
}

func TestJoinOfEachRoomAndRights(t *testing.T) {
	for room := 1; room <= 9; room++ {
		for rights := 0; rights <= 3; rights++ {
			s := behind(t, few(t), join(15, room, rights))
			if want := (delta.Person{Who: 15, Room: room, Rights: rights}); len(s.People) != 5 || s.People[1] != want {
				t.Errorf("people %v, not with %v", s.People, want)
			}
		}
	}
}

func TestJoinOfSomebodyWhoIsThere(t *testing.T) {
	s := few(t)
	for _, p := range s.People {
		refuses(t, s, api.ErrTwice, join(p.Who, p.Room, p.Rights), join(p.Who, 9, 0), join(p.Who, 1, 1))
	}
	s = behind(t, s, leave(20))
	s = behind(t, s, join(20, 4, 1))
	refuses(t, s, api.ErrTwice, join(20, 1, 3))
}

// crowd are so many people of one room.
func crowd(t *testing.T, c delta.Conf, many int) delta.State {
	t.Helper()
	s := begun(t, c)
	for i := range many {
		s = behind(t, s, join(10*(i+1), 1, all))
	}
	return s
}

func TestJoinOfAsManyAsMayBe(t *testing.T) {
	for many := 1; many <= 16; many++ {
		s := crowd(t, with(room, 0, many), many)
		refuses(t, s, api.ErrFull, join(5, 1, 3), join(999, 9, 0))
		s = behind(t, s, leave(10*many), join(5, 2, 0))
		refuses(t, s, api.ErrFull, join(7, 1, 3))
		sound(t, s)
	}
}

// All other Kinds ask for nothing but Who, ahead of all else.
func TestNobodyIsThere(t *testing.T) {
	for _, s := range []delta.State{begun(t, room), few(t), behind(t, few(t), leave(10), leave(20), leave(30), leave(40))} {
		for _, kind := range kinds {
			if kind == delta.Join {
				continue
			}
			for _, who := range append([]int{0, 1, 5, 11, 50, 100, 200, 999, 266, 10 + 1<<16, 10 + 1<<32}, far...) {
				does(t, s, delta.Req{Kind: kind, Who: who}, api.ErrNone)
				does(t, s, delta.Req{Kind: kind, Who: who, Room: 1, Rights: 3, Track: 100, SSRCs: []uint32{5}, Layer: 1, Tid: 1}, api.ErrNone)
				does(t, s, delta.Req{Kind: kind, Who: who, Room: -1, Rights: -1, Track: -1, SSRCs: []uint32{0, 0, 0, 0}, Layer: -1, Tid: -1}, api.ErrNone)
			}
		}
	}
}

func TestLeave(t *testing.T) {
	s := behind(t, few(t), subscribe(30, 300, 1, 1), subscribe(10, 200, 0, 0), subscribe(10, 100, 0, 0), publish(40, 400, 41), subscribe(40, 400, 0, 1))
	sound(t, s)
	l := behind(t, s, leave(10))
	same(t, "10 has left", l, delta.State{
		Conf:   room,
		People: []delta.Person{{Who: 20, Room: 1, Rights: 3}, {Who: 30, Room: 1, Rights: 3}, {Who: 40, Room: 2, Rights: 3}},
		Tracks: []delta.Track{{Id: 200, Owner: 30, SSRCs: []uint32{21}}, {Id: 400, Owner: 40, SSRCs: []uint32{41}}},
		Subs:   []delta.Sub{{Who: 20, Track: 200, Layer: 1, Tid: 1}, {Who: 40, Track: 400, Tid: 1}},
	})
	refuses(t, l, api.ErrNone, leave(10), unpublish(30, 100), subscribe(20, 100, 0, 0), unsubscribe(20, 100), mute(20, 100), unmute(30, 300), choose(30, 100, 0, 0))
	l = behind(t, l, leave(30))
	same(t, "30 has left", l, delta.State{
		Conf:   room,
		People: []delta.Person{{Who: 20, Room: 1, Rights: 3}, {Who: 40, Room: 2, Rights: 3}},
		Tracks: []delta.Track{{Id: 400, Owner: 40, SSRCs: []uint32{41}}},
		Subs:   []delta.Sub{{Who: 40, Track: 400, Tid: 1}},
	})
	l = behind(t, l, leave(20))
	l = behind(t, l, leave(40))
	same(t, "all have left", l, delta.State{Conf: room})
}

// Who comes again has nothing of what they had.
func TestLeaveAndJoinAgain(t *testing.T) {
	s := behind(t, few(t), mute(20, 100), replace(10, 100, 13), leave(20), join(20, 1, all))
	refuses(t, s, api.ErrNone, unsubscribe(20, 100), mute(20, 100), unmute(20, 200), choose(20, 100, 0, 0))
	s = behind(t, s, subscribe(20, 100, 0, 0), leave(10), join(10, 1, all))
	refuses(t, s, api.ErrNone, unpublish(10, 100), replace(10, 300, 5), subscribe(20, 100, 0, 0))
	s = behind(t, s, publish(10, 100, 11, 12, 13))
	if x := s.Tracks[0]; !sameTrack(x, delta.Track{Id: 100, Owner: 10, SSRCs: []uint32{11, 12, 13}}) {
		t.Errorf("track %v", x)
	}
}

// Each Kind hangs on numbers of its own alone, whatever else stands in a request.
func TestNumbersThatPlayNoPart(t *testing.T) {
	s := behind(t, few(t), mute(30, 100))
	bad := []uint32{0, 0, api.Own, 11, 21}
	for _, q := range []delta.Req{
		{Kind: delta.Join, Who: 5, Room: 1, Rights: 3, Track: -1, SSRCs: bad, Layer: -1, Tid: 9},
		{Kind: delta.Leave, Who: 10, Room: 77, Rights: -5, Track: 100, SSRCs: bad, Layer: -1, Tid: 9},
		{Kind: delta.Publish, Who: 10, Room: 77, Rights: -5, Track: 5, SSRCs: []uint32{5}, Layer: -1, Tid: 9},
		{Kind: delta.Publish, Who: 10, Room: 2, Rights: 0, Track: 5, SSRCs: []uint32{5}, Layer: 3, Tid: 4},
		{Kind: delta.Unpublish, Who: 10, Room: 77, Rights: -5, Track: 100, SSRCs: bad, Layer: -1, Tid: 9},
		{Kind: delta.Replace, Who: 10, Room: 77, Rights: -5, Track: 100, SSRCs: []uint32{5}, Layer: -1, Tid: 9},
		{Kind: delta.Subscribe, Who: 20, Room: 2, Rights: 0, Track: 300, SSRCs: bad, Layer: 0, Tid: 0},
		{Kind: delta.Unsubscribe, Who: 20, Room: 2, Rights: 0, Track: 100, SSRCs: bad, Layer: 5, Tid: 5},
		{Kind: delta.Mute, Who: 20, Room: 2, Rights: 0, Track: 100, SSRCs: bad, Layer: 5, Tid: 5},
		{Kind: delta.Unmute, Who: 30, Room: 2, Rights: 0, Track: 100, SSRCs: bad, Layer: 5, Tid: 5},
		{Kind: delta.Select, Who: 20, Room: 2, Rights: 0, Track: 100, SSRCs: bad, Layer: 2, Tid: 3},
	} {
		does(t, s, q, api.OK)
	}
}

// P18.3

// lists are SSRCs, with whether they may be.
var lists = []struct {
	may   bool
	ssrcs []uint32
}{
	{false, nil},
	{false, []uint32{}},
	{true, []uint32{1}},
	{true, []uint32{2}},
	{true, []uint32{7}},
	{true, []uint32{1 << 16}},
	{true, []uint32{2147483646}},
	{true, []uint32{2147483647}},
	{false, []uint32{0}},
	{false, []uint32{2147483648}},
	{false, []uint32{2147483649}},
	{false, []uint32{2147483648 + 7}},
	{false, []uint32{math.MaxUint32}},
	{true, []uint32{1, 2}},
	{true, []uint32{2, 1}},
	{true, []uint32{1, 2147483647}},
	{true, []uint32{7, 7 + 1<<16}},
	{false, []uint32{7, 7}},
	{false, []uint32{0, 7}},
	{false, []uint32{7, 0}},
	{false, []uint32{0, 0}},
	{false, []uint32{7, 2147483648}},
	{false, []uint32{math.MaxUint32, 7}},
	{true, []uint32{1, 2, 3}},
	{true, []uint32{3, 2, 1}},
	{true, []uint32{2147483647, 1, 2147483646}},
	{false, []uint32{7, 7, 8}},
	{false, []uint32{7, 8, 7}},
	{false, []uint32{8, 7, 7}},
	{false, []uint32{7, 7, 7}},
	{false, []uint32{0, 7, 8}},
	{false, []uint32{7, 0, 8}},
	{false, []uint32{7, 8, 0}},
	{false, []uint32{2147483648, 7, 8}},
	{false, []uint32{7, 2147483648, 8}},
	{false, []uint32{7, 8, 2147483648}},
	{false, []uint32{1, 2, 3, 4}},
	{false, []uint32{1, 2, 3, 1}},
	{false, []uint32{1, 2, 3, 4, 5}},
	{false, make([]uint32, 300)},
}

func TestPublishOfEachList(t *testing.T) {
	for _, s := range []delta.State{crowd(t, room, 1), few(t)} {
		for _, l := range lists {
			if !l.may {
				does(t, s, publish(10, 50, l.ssrcs...), api.ErrArg)
				continue
			}
			n := behind(t, s, publish(10, 50, l.ssrcs...))
			if x := n.Tracks[0]; !sameTrack(x, delta.Track{Id: 50, Owner: 10, SSRCs: l.ssrcs}) {
				t.Fatalf("track %v of %v", x, l.ssrcs)
			}
			sound(t, n)
		}
	}
}

func TestReplaceByEachList(t *testing.T) {
	for _, s := range []delta.State{behind(t, crowd(t, room, 1), publish(10, 100, 50)), few(t)} {
		for _, l := range lists {
			if !l.may {
				does(t, s, replace(10, 100, l.ssrcs...), api.ErrArg)
				continue
			}
			n := behind(t, s, replace(10, 100, l.ssrcs...))
			if x := n.Tracks[0]; !sameTrack(x, delta.Track{Id: 100, Owner: 10, From: 1, SSRCs: l.ssrcs}) {
				t.Fatalf("track %v of %v", x, l.ssrcs)
			}
			sound(t, n)
		}
	}
}

func TestPublishByEachRights(t *testing.T) {
	for rights := range 4 {
		s := behind(t, few(t), join(5, 1, rights))
		want := []api.Errno{api.ErrRight, api.OK, api.ErrRight, api.OK}[rights]
		does(t, s, publish(5, 1, 5), want)
		does(t, s, publish(5, 999, 5, 6, 7), want)
		does(t, behind(t, begun(t, room), join(5, 9, rights)), publish(5, 1, 5), want)
	}
}

func TestPublishOfTracksAtTheEdges(t *testing.T) {
	s := few(t)
	for id := -5; id <= 1010; id++ {
		switch {
		case id < 1 || id > 999:
			does(t, s, publish(10, id, 5), api.ErrArg)
		case id == 100 || id == 200 || id == 300:
			refuses(t, s, api.ErrTwice, publish(10, id, 5), publish(20, id, 5), publish(40, id, 5))
		default:
			does(t, s, publish(10, id, 5), api.OK)
		}
	}
	for _, id := range append([]int{100 + 1<<32, 100 + 1<<16, -100}, far...) {
		does(t, s, publish(10, id, 5), api.ErrArg)
	}
}

// An SSRC that a track of anybody has, at any place of it, at any place of those that are to be, is there already.
func TestSSRCsThatAreThere(t *testing.T) {
	s := few(t)
	for _, who := range []int{10, 20, 40} {
		for _, ssrc := range []uint32{11, 12, 21, 31, 32, 33} {
			for _, l := range [][]uint32{{ssrc}, {ssrc, 5}, {5, ssrc}, {ssrc, 5, 6}, {5, ssrc, 6}, {5, 6, ssrc}} {
				does(t, s, publish(who, 50, l...), api.ErrTwice)
				if who == 10 {
					refuses(t, s, api.ErrTwice, replace(10, 100, l...), replace(10, 300, l...))
				}
			}
		}
		does(t, s, publish(who, 50, 13, 22, 34), api.OK)
	}
	refuses(t, s, api.ErrTwice, publish(20, 50, 11, 12), publish(20, 50, 33, 32, 31), publish(20, 50, 11, 21, 31), publish(20, 100, 11))
}

// What was unpublished, or replaced, may be there again.
func TestSSRCsThatAreThereNoMore(t *testing.T) {
	s := behind(t, few(t), unpublish(10, 100))
	s = behind(t, s, publish(40, 400, 11))
	s = behind(t, s, publish(20, 100, 12))
	s = behind(t, s, replace(30, 200, 22), publish(20, 50, 21), leave(10), publish(40, 300, 33, 31, 32))
	sound(t, s)
	refuses(t, s, api.ErrTwice, publish(40, 600, 22), publish(40, 600, 11))
}

func TestPublishOfAsManyAsMayBe(t *testing.T) {
	for many := 1; many <= 16; many++ {
		s := crowd(t, with(room, 1, many), 3)
		for i := range many {
			s = behind(t, s, publish(10*(1+i%3), 999-i, uint32(100+i)))
		}
		refuses(t, s, api.ErrFull, publish(10, 1, 5), publish(20, 1, 5, 6, 7), publish(30, 998-many, 5))
		sound(t, s)
		s = behind(t, s, unpublish(10, 999), publish(20, 1, 5))
		refuses(t, s, api.ErrFull, publish(10, 2, 6))
	}
}

func TestUnpublish(t *testing.T) {
	s := few(t)
	refuses(t, s, api.ErrNone, unpublish(10, 0), unpublish(10, 99), unpublish(10, 101), unpublish(10, -100), unpublish(10, 100+1<<32), unpublish(20, 1), unpublish(10, 10), unpublish(10, 11))
	refuses(t, s, api.ErrRight, unpublish(20, 100), unpublish(30, 100), unpublish(40, 100), unpublish(10, 200), unpublish(20, 200), unpublish(30, 300))
	n := behind(t, s, unpublish(10, 100))
	same(t, "100 is unpublished", n, delta.State{
		Conf:   room,
		People: s.People,
		Tracks: s.Tracks[1:],
		Subs:   s.Subs[1:2],
	})
	refuses(t, n, api.ErrNone, unpublish(10, 100), replace(10, 100, 5))
	n = behind(t, n, unpublish(10, 300))
	n = behind(t, n, unpublish(30, 200))
	same(t, "all are", n, delta.State{Conf: room, People: s.People})
}

func TestReplace(t *testing.T) {
	s := few(t)
	refuses(t, s, api.ErrNone, replace(10, 0, 5), replace(10, 99, 5), replace(10, 101, 5), replace(10, -100, 5), replace(10, 100+1<<32, 5), replace(20, 1, 5), replace(10, 10, 5), replace(10, 11, 5))
	refuses(t, s, api.ErrRight, replace(20, 100, 5), replace(30, 100, 5), replace(40, 100, 5), replace(10, 200, 5), replace(20, 200, 5), replace(30, 300, 5))
	refuses(t, s, api.ErrTwice, replace(10, 100, 11, 12), replace(10, 100, 12, 11), replace(10, 100, 11), replace(10, 100, 12), replace(10, 100, 5, 12), replace(10, 100, 21), replace(10, 100, 5, 6, 33))
	n := behind(t, s, replace(10, 100, 13))
	same(t, "replaced", n, delta.State{
		Conf:   room,
		People: s.People,
		Tracks: []delta.Track{{Id: 100, Owner: 10, From: 1, SSRCs: []uint32{13}}, s.Tracks[1], s.Tracks[2]},
		Subs:   s.Subs,
	})
	refuses(t, n, api.ErrTwice, replace(10, 100, 13))
	n = behind(t, n, replace(10, 100, 12, 11, 14))
	if x := n.Tracks[0]; !sameTrack(x, delta.Track{Id: 100, Owner: 10, From: 2, SSRCs: []uint32{12, 11, 14}}) {
		t.Errorf("track %v", x)
	}
	refuses(t, n, api.ErrTwice, replace(10, 100, 14), replace(10, 100, 11, 13))
	n = behind(t, n, replace(10, 100, 13), replace(30, 200, 11), replace(10, 300, 12, 21))
	for i, from := range []int{3, 1, 1} {
		if n.Tracks[i].From != from {
			t.Errorf("tracks %v", n.Tracks)
		}
	}
	sound(t, n)
}

// From counts each Replace that was done, of this track alone, and begins again with a Publish.
func TestFrom(t *testing.T) {
	s := few(t)
	for i := range 20 {
		s = behind(t, s, replace(10, 300, uint32(1000+i)))
		refuses(t, s, api.ErrTwice, replace(10, 300, uint32(1000+i)))
		refuses(t, s, api.ErrArg, replace(10, 300))
		if s.Tracks[0].From != 0 || s.Tracks[1].From != 0 || s.Tracks[2].From != i+1 {
			t.Fatalf("behind %d: %v", i+1, s.Tracks)
		}
	}
	s = behind(t, s, subscribe(20, 300, 0, 0), mute(20, 300), unpublish(10, 100))
	if s.Tracks[1].From != 20 {
		t.Errorf("tracks %v", s.Tracks)
	}
	s = behind(t, s, unpublish(10, 300), publish(10, 300, 1))
	if s.Tracks[1].From != 0 {
		t.Errorf("tracks %v", s.Tracks)
	}
}

// P18.4

func TestSubscribeByEachRights(t *testing.T) {
	for rights := range 4 {
		s := behind(t, few(t), join(5, 1, rights))
		want := []api.Errno{api.ErrRight, api.ErrRight, api.OK, api.OK}[rights]
		for _, id := range []int{100, 200, 300} {
			does(t, s, subscribe(5, id, 2, 3), want)
		}
	}
}

func TestSubscribe(t *testing.T) {
	s := few(t)
	refuses(t, s, api.ErrNone, subscribe(20, 0, 0, 0), subscribe(20, 99, 0, 0), subscribe(20, 101, 0, 0), subscribe(20, -300, 0, 0), subscribe(20, 300+1<<32, 0, 0), subscribe(20, 10, 0, 0), subscribe(20, 11, 0, 0), subscribe(40, 400, 0, 0))
	refuses(t, s, api.ErrRight, subscribe(40, 100, 0, 0), subscribe(40, 200, 0, 0), subscribe(40, 300, 0, 0))
	refuses(t, s, api.ErrTwice, subscribe(20, 100, 0, 3), subscribe(20, 200, 0, 0), subscribe(30, 100, 0, 0))
	n := behind(t, s, subscribe(20, 300, 2, 1), subscribe(10, 100, 1, 2))
	same(t, "more are sent", n, delta.State{
		Conf:   room,
		People: s.People,
		Tracks: s.Tracks,
		Subs: []delta.Sub{
			{Who: 10, Track: 100, Layer: 1, Tid: 2},
			{Who: 20, Track: 100, Tid: 3}, {Who: 20, Track: 200, Layer: 1, Tid: 1}, {Who: 20, Track: 300, Layer: 2, Tid: 1},
			{Who: 30, Track: 100, Layer: 2, Tid: 2},
		},
	})
	refuses(t, n, api.ErrTwice, subscribe(20, 300, 2, 1), subscribe(10, 100, 0, 0))
	sound(t, n)
}

// Each pair of rooms: only one's own will do.
func TestSubscribeOfEachRoom(t *testing.T) {
	for a := 1; a <= 9; a++ {
		for b := 1; b <= 9; b++ {
			s := behind(t, begun(t, room), join(1, a, delta.MayPublish), join(2, b, delta.MaySubscribe), publish(1, 2, 3))
			if a == b {
				does(t, s, subscribe(2, 2, 0, 0), api.OK)
			} else {
				does(t, s, subscribe(2, 2, 0, 0), api.ErrRight)
			}
			does(t, s, subscribe(1, 2, 0, 0), api.ErrRight)
		}
	}
}

// Layer and Tid are held by their own edges, not by how many layers the track has.
func TestLayersAndTidsAtTheEdges(t *testing.T) {
	s := few(t)
	numbers := append([]int{0, 1, 2, 3, 4, 5, 15, 16, 17, 255, 256, 257}, far...)
	for _, layer := range numbers {
		for _, tid := range numbers {
			want := api.ErrArg
			if layer >= 0 && layer <= 2 && tid >= 0 && tid <= 3 {
				want = api.OK
			}
			does(t, s, subscribe(20, 300, layer, tid), want)
			does(t, s, subscribe(10, 200, layer, tid), want)
			n := does(t, s, choose(20, 200, layer, tid), want)
			if want == api.OK && n.Subs[1] != (delta.Sub{Who: 20, Track: 200, Layer: layer, Tid: tid}) {
				t.Fatalf("subs %v", n.Subs)
			}
			m := behind(t, s, mute(20, 200))
			n = does(t, m, choose(20, 200, layer, tid), want)
			if want == api.OK && n.Subs[1] != (delta.Sub{Who: 20, Track: 200, Layer: layer, Tid: tid, Muted: true}) {
				t.Fatalf("muted subs %v", n.Subs)
			}
		}
	}
}

// published are so many tracks of 10, with so many people beside.
func published(t *testing.T, c delta.Conf, people, tracks int) delta.State {
	t.Helper()
	s := crowd(t, c, people)
	for i := range tracks {
		s = behind(t, s, publish(10, 100*(i%9)+i+1, uint32(i+1)))
	}
	return s
}

func TestSubscribeOfAsManyOfOnesOwnAsMayBe(t *testing.T) {
	for many := 1; many < 16; many++ {
		s := published(t, with(room, 2, many), 3, many+1)
		for i := range many {
			s = behind(t, s, subscribe(20, s.Tracks[i].Id, 0, 0))
		}
		last := s.Tracks[many].Id
		refuses(t, s, api.ErrQuota, subscribe(20, last, 0, 0), subscribe(20, last, 2, 3))
		does(t, s, subscribe(10, last, 0, 0), api.OK)
		does(t, s, subscribe(30, last, 0, 0), api.OK)
		sound(t, s)
		s = behind(t, s, unsubscribe(20, s.Tracks[0].Id), subscribe(20, last, 0, 0))
		refuses(t, s, api.ErrQuota, subscribe(20, s.Tracks[0].Id, 0, 0))
	}
	s := published(t, room, 2, 16)
	for _, x := range s.Tracks {
		s = behind(t, s, subscribe(20, x.Id, 1, 1))
	}
	sound(t, s)
}

func TestSubscribeOfAsManyInAllAsMayBe(t *testing.T) {
	for _, many := range []int{1, 2, 3, 15, 16, 17, 31, 32, 33, 48, 62, 63, 64} {
		s := published(t, with(room, 3, many), 16, 16)
		for i := range many {
			s = behind(t, s, subscribe(10*(1+i%15), s.Tracks[i/15].Id, 0, 0))
		}
		for who := 10; who <= 160; who += 10 {
			does(t, s, subscribe(who, s.Tracks[15].Id, 0, 0), api.ErrFull)
		}
		sound(t, s)
		s = behind(t, s, unsubscribe(10, s.Tracks[0].Id), subscribe(160, s.Tracks[15].Id, 0, 0))
		refuses(t, s, api.ErrFull, subscribe(10, s.Tracks[0].Id, 0, 0))
	}
}

func TestUnsubscribe(t *testing.T) {
	s := few(t)
	for _, x := range s.Subs {
		n := behind(t, s, unsubscribe(x.Who, x.Track))
		if want := plainGone(s, n); len(n.Subs) != 2 || len(want) != 1 || want[0] != x {
			t.Errorf("subs %v behind %v", n.Subs, x)
		}
		refuses(t, n, api.ErrNone, unsubscribe(x.Who, x.Track), mute(x.Who, x.Track), unmute(x.Who, x.Track), choose(x.Who, x.Track, 0, 0))
		n = behind(t, n, subscribe(x.Who, x.Track, 1, 2))
		refuses(t, n, api.ErrTwice, subscribe(x.Who, x.Track, 1, 2))
		sound(t, n)
	}
}

// What somebody isn't sent: a track that there is, and none, and what others are sent.
func TestWhatTheyAreNotSent(t *testing.T) {
	s := few(t)
	for who, tracks := range map[int][]int{
		10: {100, 200, 300, 0, 10, 20, -100, 100 + 1<<32},
		20: {300, 0, 20, 21, 101, -100, -200, 999, 100 + 1<<32, 200 + 1<<16},
		30: {200, 300, 0, 1, 99, -100, 100 + 1<<32},
		40: {100, 200, 300, 400},
	} {
		for _, id := range tracks {
			refuses(t, s, api.ErrNone, unsubscribe(who, id), mute(who, id), unmute(who, id), choose(who, id, 0, 0), choose(who, id, 2, 3))
		}
	}
}

func TestMuteAndUnmute(t *testing.T) {
	s := few(t)
	for i, x := range s.Subs {
		refuses(t, s, api.ErrState, unmute(x.Who, x.Track))
		m := behind(t, s, mute(x.Who, x.Track))
		for j, y := range m.Subs {
			want := s.Subs[j]
			want.Muted = i == j
			if y != want {
				t.Errorf("%v, not %v", y, want)
			}
		}
		refuses(t, m, api.ErrState, mute(x.Who, x.Track))
		u := behind(t, m, unmute(x.Who, x.Track))
		same(t, "muted, then not", u, s)
		refuses(t, u, api.ErrState, unmute(x.Who, x.Track))
		same(t, "muted again", behind(t, u, mute(x.Who, x.Track)), m)
		again := behind(t, m, unsubscribe(x.Who, x.Track), subscribe(x.Who, x.Track, x.Layer, x.Tid))
		same(t, "asked for again", again, s)
	}
}

// A Select of what it has already is done as well, and leaves whether it is muted.
func TestSelect(t *testing.T) {
	s := behind(t, few(t), mute(20, 200))
	for i, x := range s.Subs {
		same(t, "the same", behind(t, s, choose(x.Who, x.Track, x.Layer, x.Tid)), s)
		n := behind(t, s, choose(x.Who, x.Track, 1, 0), choose(x.Who, x.Track, 1, 0))
		want := slices.Clone(s.Subs)
		want[i].Layer, want[i].Tid = 1, 0
		if !slices.Equal(n.Subs, want) {
			t.Errorf("subs %v, not %v", n.Subs, want)
		}
	}
}

// Two things wrong at once

// fault is what is wrong with a request, and with the state that it comes to: what makes it so.
type fault struct {
	err api.Errno
	of  func(s *delta.State, q *delta.Req)
}

// Faults, of which each leaves alone what the others are made by.

func nobody(s *delta.State, q *delta.Req) { q.Who = 50 }

func fullPeople(s *delta.State, q *delta.Req) { s.Conf.People = len(s.People) }

func fullTracks(s *delta.State, q *delta.Req) { s.Conf.Tracks = len(s.Tracks) }

func fullSubs(s *delta.State, q *delta.Req) { s.Conf.Slots = len(s.Subs) }

// quota lets 20, who is sent two tracks, be sent no more.
func quota(s *delta.State, q *delta.Req) { s.Conf.Subs = 2 }

func setTrack(id int) func(*delta.State, *delta.Req) {
	return func(s *delta.State, q *delta.Req) { q.Track = id }
}

func setSSRCs(l ...uint32) func(*delta.State, *delta.Req) {
	return func(s *delta.State, q *delta.Req) { q.SSRCs = append(slices.Clone(q.SSRCs), l...) }
}

func setLayer(layer, tid int) func(*delta.State, *delta.Req) {
	return func(s *delta.State, q *delta.Req) { q.Layer, q.Tid = layer, tid }
}

// rightsOf gives people of a state other Rights.
func rightsOf(who, rights int) func(*delta.State, *delta.Req) {
	return func(s *delta.State, q *delta.Req) {
		for i := range s.People {
			if s.People[i].Who == who {
				s.People[i].Rights = rights
			}
		}
	}
}

// roomOf gives people of a state another Room.
func roomOf(who, room int) func(*delta.State, *delta.Req) {
	return func(s *delta.State, q *delta.Req) {
		for i := range s.People {
			if s.People[i].Who == who {
				s.People[i].Room = room
			}
		}
	}
}

// faulty are requests that may be done, each with its faults in the chapter's order: those that stand in one row can't be told apart by that order.
var faulty = []struct {
	name string
	q    delta.Req
	rows [][]fault
}{
	{"Join", join(5, 1, 3), [][]fault{
		{
			{api.ErrArg, func(s *delta.State, q *delta.Req) { q.Room = 0 }},
			{api.ErrArg, func(s *delta.State, q *delta.Req) { q.Room = 10 }},
			{api.ErrArg, func(s *delta.State, q *delta.Req) { q.Rights = -1 }},
			{api.ErrArg, func(s *delta.State, q *delta.Req) { q.Rights = 4 }},
		},
		{{api.ErrTwice, func(s *delta.State, q *delta.Req) { q.Who = 20 }}},
		{{api.ErrFull, fullPeople}},
	}},
	{"Join of a Who that may not be", join(5, 1, 3), [][]fault{
		{
			{api.ErrArg, func(s *delta.State, q *delta.Req) { q.Who = 0 }},
			{api.ErrArg, func(s *delta.State, q *delta.Req) { q.Who = 1000 }},
		},
		{{api.ErrFull, fullPeople}},
	}},
	{"Publish", publish(10, 50), [][]fault{
		{{api.ErrNone, nobody}},
		{{api.ErrRight, rightsOf(10, 0)}, {api.ErrRight, rightsOf(10, 2)}},
		{{api.ErrArg, setSSRCs(5, 0)}, {api.ErrArg, setSSRCs(5, 5)}, {api.ErrArg, setSSRCs(5, 6, 7, 8)}, {api.ErrArg, setSSRCs(5, api.Own)}},
		{{api.ErrTwice, setTrack(100)}, {api.ErrTwice, setTrack(200)}, {api.ErrTwice, setSSRCs(21)}, {api.ErrTwice, setSSRCs(33)}},
		{{api.ErrFull, fullTracks}},
	}},
	{"Publish of a Track that may not be", publish(10, 50, 5), [][]fault{
		{{api.ErrNone, nobody}},
		{{api.ErrRight, rightsOf(10, 0)}, {api.ErrRight, rightsOf(10, 2)}},
		{{api.ErrArg, setTrack(0)}, {api.ErrArg, setTrack(1000)}},
		{{api.ErrTwice, setSSRCs(21)}, {api.ErrTwice, setSSRCs(33)}},
		{{api.ErrFull, fullTracks}},
	}},
	{"Unpublish", unpublish(10, 100), [][]fault{
		{{api.ErrNone, nobody}},
		{{api.ErrNone, setTrack(50)}, {api.ErrRight, setTrack(200)}},
	}},
	{"Replace", replace(10, 100), [][]fault{
		{{api.ErrNone, nobody}},
		{{api.ErrNone, setTrack(50)}, {api.ErrRight, setTrack(200)}},
		{{api.ErrArg, setSSRCs(5, 0)}, {api.ErrArg, setSSRCs(5, 5)}, {api.ErrArg, setSSRCs(5, 6, 7, 8)}, {api.ErrArg, setSSRCs(5, api.Own)}},
		{{api.ErrTwice, setSSRCs(11)}, {api.ErrTwice, setSSRCs(21)}, {api.ErrTwice, setSSRCs(33)}},
	}},
	{"Subscribe", subscribe(20, 300, 0, 0), [][]fault{
		{{api.ErrNone, nobody}},
		{{api.ErrRight, rightsOf(20, 0)}, {api.ErrRight, rightsOf(20, 1)}},
		{{api.ErrNone, setTrack(50)}, {api.ErrNone, setTrack(0)}, {api.ErrNone, setTrack(1000)}},
		{{api.ErrRight, roomOf(20, 3)}},
		{{api.ErrTwice, setTrack(100)}, {api.ErrTwice, setTrack(200)}},
		{{api.ErrArg, setLayer(3, 0)}, {api.ErrArg, setLayer(-1, 0)}, {api.ErrArg, setLayer(0, 4)}, {api.ErrArg, setLayer(0, -1)}},
		{{api.ErrQuota, quota}},
		{{api.ErrFull, fullSubs}},
	}},
	{"Unsubscribe", unsubscribe(20, 100), [][]fault{
		{{api.ErrNone, nobody}},
		{{api.ErrNone, setTrack(300)}, {api.ErrNone, setTrack(50)}},
	}},
	{"Mute", mute(20, 100), [][]fault{
		{{api.ErrNone, nobody}},
		{{api.ErrNone, setTrack(300)}, {api.ErrNone, setTrack(50)}},
		{{api.ErrState, func(s *delta.State, q *delta.Req) { s.Subs[0].Muted = true }}},
	}},
	{"Unmute", unmute(20, 200), [][]fault{
		{{api.ErrNone, nobody}},
		{{api.ErrNone, setTrack(300)}, {api.ErrNone, setTrack(50)}},
		{{api.ErrState, func(s *delta.State, q *delta.Req) { s.Subs[1].Muted = false }}},
	}},
	{"Select", choose(20, 100, 0, 0), [][]fault{
		{{api.ErrNone, nobody}},
		{{api.ErrNone, setTrack(300)}, {api.ErrNone, setTrack(50)}},
		{{api.ErrArg, setLayer(3, 0)}, {api.ErrArg, setLayer(-1, 0)}, {api.ErrArg, setLayer(0, 4)}, {api.ErrArg, setLayer(0, -1)}},
	}},
}

// mixed is few, of which a sub is muted.
func mixed(t *testing.T) delta.State {
	t.Helper()
	return behind(t, few(t), mute(20, 200))
}

// TestOneFault: each fault alone has its error, so that the tests of two mean what they say.
func TestOneFault(t *testing.T) {
	for _, f := range faulty {
		t.Run(f.name, func(t *testing.T) {
			for _, row := range f.rows {
				for _, one := range row {
					s, q := mixed(t), f.q
					one.of(&s, &q)
					if q.SSRCs == nil && (q.Kind == delta.Publish || q.Kind == delta.Replace) {
						q.SSRCs = []uint32{5}
					}
					does(t, s, q, one.err)
				}
			}
		})
	}
}

// Both faults are made in either order; where one undoes the other (both set the Track), there is nothing that has both.
func TestTwoFaults(t *testing.T) {
	for _, f := range faulty {
		t.Run(f.name, func(t *testing.T) {
			for i, early := range f.rows {
				for _, late := range f.rows[i+1:] {
					for _, a := range early {
						for _, b := range late {
							twoFaults(t, f.q, a, b)
						}
					}
				}
			}
		})
	}
}

// twoFaults tells whether the first one is told, of two that hold both.
func twoFaults(t *testing.T, q delta.Req, a, b fault) {
	t.Helper()
	for _, order := range [][]fault{{a, b}, {b, a}} {
		s, r := mixed(t), q
		for _, one := range order {
			one.of(&s, &r)
		}
		if r.SSRCs == nil && (r.Kind == delta.Publish || r.Kind == delta.Replace) {
			r.SSRCs = []uint32{5}
		}
		if undone(r, a, b) {
			continue
		}
		does(t, s, r, a.err)
	}
}

// undone tells whether one of two faults set a request's number over the other's.
func undone(r delta.Req, a, b fault) bool {
	s := delta.State{Subs: make([]delta.Sub, 2)}
	x, y := r, r
	a.of(&s, &x)
	b.of(&s, &y)
	return x.Track != r.Track || y.Track != r.Track
}

// All faults that may be at once, from each one on: the first one is told.
func TestMoreThanTwoFaults(t *testing.T) {
	s := mixed(t)
	s.Conf = delta.Conf{People: 4, Tracks: 3, Subs: 2, Slots: 3}
	refuses(t, s, api.ErrArg, join(20, 0, 4))
	refuses(t, s, api.ErrTwice, join(20, 1, 3))
	refuses(t, s, api.ErrFull, join(5, 1, 3))
	refuses(t, s, api.ErrNone, publish(50, 0, 0, 0), subscribe(50, 0, 9, 9), subscribe(20, 400, 9, 9))
	refuses(t, s, api.ErrArg, publish(10, 0, 11, 21), publish(10, 100, 11, 11), publish(10, 100))
	refuses(t, s, api.ErrTwice, publish(10, 100, 11), publish(10, 100, 5), publish(10, 400, 11), subscribe(20, 100, 9, 9), subscribe(20, 100, 0, 0))
	refuses(t, s, api.ErrFull, publish(10, 400, 5), subscribe(10, 100, 0, 0))
	refuses(t, s, api.ErrRight, subscribe(40, 100, 9, 9))
	refuses(t, s, api.ErrArg, subscribe(20, 300, 9, 9), subscribe(10, 100, 9, 0))
	refuses(t, s, api.ErrQuota, subscribe(20, 300, 0, 0))
}

// Where rows go

// orders are all orders of so many, met by chance (TestOrders tells that none is left out).
func orders(many int) [][]int {
	r := rand.New(rand.NewPCG(18, 4))
	var some [][]int
	for range 6000 {
		some = append(some, r.Perm(many))
	}
	slices.SortFunc(some, slices.Compare)
	return slices.CompactFunc(some, slices.Equal)
}

func TestOrders(t *testing.T) {
	if five, six := len(orders(5)), len(orders(6)); five != 120 || six != 720 {
		t.Fatalf("%d and %d orders", five, six)
	}
}

func TestPeopleInAnyOrder(t *testing.T) {
	whos := []int{1, 2, 9, 10, 999}
	for _, order := range orders(len(whos)) {
		s := begun(t, room)
		for _, place := range order {
			s = behind(t, s, join(whos[place], 1+place, place%4))
			sound(t, s)
		}
		for place, who := range whos {
			if s.People[place] != (delta.Person{Who: who, Room: 1 + place, Rights: place % 4}) {
				t.Fatalf("order %v: %v", order, s.People)
			}
		}
		for _, place := range order {
			s = behind(t, s, leave(whos[place]))
			sound(t, s)
		}
		same(t, "all left", s, delta.State{Conf: room})
	}
}

func TestTracksInAnyOrder(t *testing.T) {
	ids := []int{1, 2, 9, 10, 999}
	for _, order := range orders(len(ids)) {
		s := crowd(t, room, 5)
		people := s.People
		for _, place := range order {
			s = behind(t, s, publish(50-10*place, ids[place], uint32(100-place)))
			sound(t, s)
		}
		for place, id := range ids {
			if !sameTrack(s.Tracks[place], delta.Track{Id: id, Owner: 50 - 10*place, SSRCs: []uint32{uint32(100 - place)}}) {
				t.Fatalf("order %v: %v", order, s.Tracks)
			}
		}
		for _, place := range order {
			s = behind(t, s, unpublish(50-10*place, ids[place]))
			sound(t, s)
		}
		same(t, "all unpublished", s, delta.State{Conf: room, People: people})
	}
}

func TestSubsInAnyOrder(t *testing.T) {
	subs := []delta.Sub{{Who: 10, Track: 9, Layer: 1}, {Who: 10, Track: 10, Tid: 2}, {Who: 20, Track: 8, Layer: 2}, {Who: 20, Track: 9}, {Who: 20, Track: 10, Tid: 3}, {Who: 30, Track: 8}}
	begin := behind(t, crowd(t, room, 3), publish(20, 8, 1), publish(10, 9, 2), publish(30, 10, 3))
	for _, order := range orders(len(subs)) {
		s := begin
		for _, place := range order {
			x := subs[place]
			next, err := delta.Do(s, subscribe(x.Who, x.Track, x.Layer, x.Tid))
			if err != api.OK {
				t.Fatalf("order %v: error %d", order, err)
			}
			sound(t, next)
			s = next
		}
		if !slices.Equal(s.Subs, subs) {
			t.Fatalf("order %v: %v", order, s.Subs)
		}
		for _, place := range order {
			x := subs[place]
			next, err := delta.Do(s, unsubscribe(x.Who, x.Track))
			if err != api.OK {
				t.Fatalf("order %v: error %d", order, err)
			}
			sound(t, next)
			s = next
		}
		same(t, "none is left", s, begin)
	}
}

// Memory

// Each state that was told stays as it was, whatever is done to those before it and behind it.
func TestStatesThatWereToldStay(t *testing.T) {
	r := rand.New(rand.NewPCG(18, 2))
	told := []delta.State{begun(t, room)}
	were := []delta.State{begun(t, room)}
	for len(told) < 250 {
		from := told[len(told)-1]
		if r.IntN(10) == 0 { // what was told long ago goes on as well
			from = told[r.IntN(len(told))]
		}
		next, err := delta.Do(from, chance(r, from))
		if err == api.OK {
			told, were = append(told, next), append(were, deep(next))
		}
	}
	for i := range told {
		same(t, "told once", told[i], were[i])
	}
	for i := range told {
		writeOver(told[i])
		for j := i + 1; j < len(told); j++ {
			same(t, "told, behind writing over another one", told[j], were[j])
		}
	}
}

// A request's SSRCs are one's own, behind as ahead.
func TestSSRCsAreNotKept(t *testing.T) {
	l := []uint32{5, 6, 7}
	s, err := delta.Do(crowd(t, room, 1), publish(10, 1, l...))
	if err != api.OK {
		t.Fatal(err)
	}
	over(l, 9)
	if !slices.Equal(s.Tracks[0].SSRCs, []uint32{5, 6, 7}) {
		t.Fatalf("published %v", s.Tracks)
	}
	l = []uint32{8}
	n, err := delta.Do(s, replace(10, 1, l...))
	if err != api.OK {
		t.Fatal(err)
	}
	over(l, 9)
	over(s.Tracks[0].SSRCs, 9)
	if !slices.Equal(n.Tracks[0].SSRCs, []uint32{8}) {
		t.Fatalf("replaced %v", n.Tracks)
	}
}

// By chance

// chance is a request, of numbers of which most will do.
func chance(r *rand.Rand, s delta.State) delta.Req {
	q := delta.Req{Kind: r.IntN(10), Who: 1 + r.IntN(6), Room: 1 + r.IntN(2), Rights: r.IntN(4), Track: 1 + r.IntN(8), Layer: r.IntN(3), Tid: r.IntN(4)}
	if r.IntN(2) == 0 {
		q.Rights = all
	}
	if r.IntN(3) == 0 || (q.Kind == delta.Leave || q.Kind == delta.Unpublish) && r.IntN(4) > 0 { // so that there is much
		q.Kind = delta.Subscribe
	}
	for range 1 + r.IntN(3) {
		q.SSRCs = append(q.SSRCs, uint32(1+r.IntN(40)))
	}
	if len(s.Tracks) > 0 && r.IntN(2) == 0 { // of one's own
		x := s.Tracks[r.IntN(len(s.Tracks))]
		q.Track = x.Id
		if q.Kind == delta.Unpublish || q.Kind == delta.Replace {
			q.Who = x.Owner
		}
	}
	if len(s.Subs) > 0 && q.Kind >= delta.Unsubscribe && r.IntN(3) > 0 {
		x := s.Subs[r.IntN(len(s.Subs))]
		q.Who, q.Track = x.Who, x.Track
	}
	if r.IntN(6) == 0 {
		wrong := []*int{&q.Kind, &q.Who, &q.Room, &q.Rights, &q.Track, &q.Layer, &q.Tid}
		*wrong[r.IntN(len(wrong))] = []int{-1, 0, 3, 4, 9, 10, 999, 1000, math.MaxInt, math.MinInt}[r.IntN(10)]
	}
	if r.IntN(20) == 0 {
		q.SSRCs = [][]uint32{nil, {0}, {api.Own}, {1, 1}, {1, 2, 3, 4}, {api.Own - 1}, {math.MaxUint32, 1}}[r.IntN(7)]
	}
	return q
}

// P18.5 is held behind each, as is what else the chapter says.
func TestRequestsByChance(t *testing.T) {
	met := map[[2]int]int{}
	for seed := range uint64(40) {
		r := rand.New(rand.NewPCG(18, 100+seed))
		c := delta.Conf{People: 1 + r.IntN(6), Tracks: 1 + r.IntN(8), Subs: 1 + r.IntN(5), Slots: 1 + r.IntN(14)}
		if seed%3 == 0 {
			c = room
		}
		s := begun(t, c)
		for range 500 {
			q := chance(r, s)
			next, err := did(t, s, q)
			sound(t, next)
			gone(t, s, next, plainGone(s, next)...)
			gone(t, next, s, plainGone(next, s)...)
			met[[2]int{q.Kind, int(err)}]++
			s = next
		}
	}
	for kind, errs := range [][]api.Errno{
		{api.OK, api.ErrArg, api.ErrTwice, api.ErrFull},
		{api.OK, api.ErrNone},
		{api.OK, api.ErrNone, api.ErrRight, api.ErrArg, api.ErrTwice, api.ErrFull},
		{api.OK, api.ErrNone, api.ErrRight},
		{api.OK, api.ErrNone, api.ErrRight, api.ErrArg, api.ErrTwice},
		{api.OK, api.ErrNone, api.ErrRight, api.ErrTwice, api.ErrArg, api.ErrQuota, api.ErrFull},
		{api.OK, api.ErrNone},
		{api.OK, api.ErrNone, api.ErrState},
		{api.OK, api.ErrNone, api.ErrState},
		{api.OK, api.ErrNone, api.ErrArg},
	} {
		for _, err := range errs {
			if met[[2]int{kind, int(err)}] == 0 {
				t.Errorf("Kind %d never came to error %d", kind, err)
			}
		}
	}
}

// All rows of six requests, of a small kind, one behind another.
func TestAllRowsOfFewRequests(t *testing.T) {
	reqs := []delta.Req{
		join(1, 1, all), join(2, 1, all), join(2, 2, all), leave(1), leave(2),
		publish(1, 1, 1), publish(2, 1, 2), publish(2, 2, 1), unpublish(1, 1), unpublish(2, 2), replace(1, 1, 2), replace(2, 2, 3),
		subscribe(1, 1, 0, 0), subscribe(2, 1, 1, 1), subscribe(1, 2, 2, 2), unsubscribe(2, 1), mute(2, 1), unmute(2, 1), choose(2, 1, 2, 3),
	}
	begin := behind(t, begun(t, delta.Conf{People: 2, Tracks: 1, Subs: 1, Slots: 1}), join(1, 1, all), publish(1, 1, 1))
	var from func(s delta.State, left int)
	from = func(s delta.State, left int) {
		if left == 0 {
			return
		}
		for _, q := range reqs {
			want, wantErr := plain(s, q)
			got, err := delta.Do(s, q)
			if err != wantErr || !equal(got, want) {
				t.Fatalf("%v behind %v: %v, %d, not %v, %d", q, s, got, err, want, wantErr)
			}
			if err == api.OK {
				sound(t, got)
				from(got, left-1)
			}
		}
	}
	from(begin, 6)
	from(begun(t, delta.Conf{People: 2, Tracks: 2, Subs: 1, Slots: 2}), 6)
}

// States that no call told: a call ends, and leaves what was handed in.
func TestStatesThatAreNone(t *testing.T) {
	r := rand.New(rand.NewPCG(18, 3))
	some := []int{0, 1, 2, 3, -1, math.MaxInt, math.MinInt}
	n := func() int { return some[r.IntN(len(some))] }
	for range 3000 {
		s := delta.State{Conf: delta.Conf{People: n(), Tracks: n(), Subs: n(), Slots: n()}}
		for range r.IntN(5) {
			s.People = append(s.People, delta.Person{Who: n(), Room: n(), Rights: n()})
			s.Tracks = append(s.Tracks, delta.Track{Id: n(), Owner: n(), From: n(), SSRCs: make([]uint32, r.IntN(5))})
			s.Subs = append(s.Subs, delta.Sub{Who: n(), Track: n(), Layer: n(), Tid: n(), Muted: r.IntN(2) == 0})
		}
		q := delta.Req{Kind: r.IntN(10), Who: n(), Room: n(), Rights: n(), Track: n(), SSRCs: []uint32{1, 2}, Layer: n(), Tid: n()}
		in, inReq := roomy(s), roomyReq(q)
		got, err := delta.Do(in, inReq)
		untouched(t, in, s)
		untouchedReq(t, inReq, q)
		if err != api.OK {
			same(t, "with an error", got, s)
		}
		delta.Gone(in, got)
		delta.Gone(got, in)
		untouched(t, in, s)
	}
	refuses(t, delta.State{}, api.ErrFull, join(1, 1, 3))
	refuses(t, delta.State{}, api.ErrNone, leave(1), publish(1, 1, 1), mute(1, 1))
}

// The chapter's example.
func ExampleDo() {
	s, _ := delta.New(delta.Conf{People: 2, Tracks: 1, Subs: 1, Slots: 1})
	for _, q := range []delta.Req{
		{Kind: delta.Join, Who: 1, Room: 1, Rights: delta.MayPublish},
		{Kind: delta.Join, Who: 2, Room: 1, Rights: delta.MaySubscribe},
		{Kind: delta.Publish, Who: 1, Track: 7, SSRCs: []uint32{70, 71}},
		{Kind: delta.Subscribe, Who: 2, Track: 7, Layer: 1, Tid: 3},
	} {
		s, _ = delta.Do(s, q)
	}
	fmt.Println(s.Tracks, s.Subs)
	next, err := delta.Do(s, delta.Req{Kind: delta.Leave, Who: 1})
	fmt.Println(len(next.Tracks), len(next.Subs), int(err))
	fmt.Println(delta.Gone(s, next))
	// Output:
	// [{7 1 0 [70 71]}] [{2 7 1 3 false}]
	// 0 0 0
	// [{2 7 1 3 false}]
}
