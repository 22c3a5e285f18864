package delta_test

import (
	"slices"
	"testing"

	"louver/api"
	"louver/delta"
)

// begun is a state without anybody.
func begun(t *testing.T, c delta.Conf) delta.State {
	t.Helper()
	s, err := delta.New(c)
	if err != api.OK {
		t.Fatalf("New of %v: error %d", c, err)
	}
	same(t, "New", s, delta.State{Conf: c})
	return s
}

// behind is a state behind requests that may all be done.
func behind(t *testing.T, s delta.State, reqs ...delta.Req) delta.State {
	t.Helper()
	for _, q := range reqs {
		s = does(t, s, q, api.OK)
	}
	return s
}

// refuses tells whether requests are all refused with an error, each alone.
func refuses(t *testing.T, s delta.State, want api.Errno, reqs ...delta.Req) {
	t.Helper()
	for _, q := range reqs {
		does(t, s, q, want)
	}
}

// does does a request and tells whether just that comes of it, and that it does nothing else.
func does(t *testing.T, s delta.State, q delta.Req, want api.Errno) delta.State {
	t.Helper()
	next, err := did(t, s, q)
	if err != want {
		t.Fatalf("%v behind %v: error %d, not %d", q, s, err, want)
	}
	return next
}

// did does a request, held against the chapter's words, with memory that is looked after.
func did(t *testing.T, s delta.State, q delta.Req) (delta.State, api.Errno) {
	t.Helper()
	want, wantErr := plain(s, q)
	in, inReq := roomy(s), roomyReq(q)
	got, err := delta.Do(in, inReq)
	if err != wantErr {
		t.Fatalf("%v behind %v: error %d, not %d", q, s, err, wantErr)
	}
	same(t, "told", got, want)
	untouched(t, in, s)
	untouchedReq(t, inReq, q)
	if err != api.OK {
		same(t, "with an error", got, s)
		return deep(s), err
	}
	again, _ := delta.Do(in, inReq)
	same(t, "told again", again, want)
	writeOver(again)
	untouched(t, in, s)
	untouchedReq(t, inReq, q)
	same(t, "told first", got, want)
	writeOver(in)
	writeOverReq(inReq)
	same(t, "behind writing over what was handed in", got, want)
	apart(t, got)
	return got, err
}

// deep is the same, in other memory.
func deep(s delta.State) delta.State {
	c := delta.State{Conf: s.Conf, People: slices.Clone(s.People), Subs: slices.Clone(s.Subs)}
	for _, x := range s.Tracks {
		x.SSRCs = slices.Clone(x.SSRCs)
		c.Tracks = append(c.Tracks, x)
	}
	return c
}

// What stands behind the ends of rows that are handed in.
var (
	markPerson = delta.Person{Who: -71, Room: -72, Rights: -73}
	markTrack  = delta.Track{Id: -74, Owner: -75, From: -76}
	markSub    = delta.Sub{Who: -77, Track: -78, Layer: -79, Tid: -80, Muted: true}
)

const markSSRC = uint32(4000000081)

// spare is how many of those.
const spare = 5

// withSpare is a row in other memory that has marks behind its end.
func withSpare[T any](row []T, mark T) []T {
	long := slices.Clone(row)
	for range spare {
		long = append(long, mark)
	}
	return long[:len(row)]
}

// roomy is the same, in other memory, with marks behind all ends.
func roomy(s delta.State) delta.State {
	c := delta.State{Conf: s.Conf, People: withSpare(s.People, markPerson), Subs: withSpare(s.Subs, markSub)}
	c.Tracks = withSpare(s.Tracks, markTrack)
	for i := range c.Tracks {
		c.Tracks[i].SSRCs = withSpare(c.Tracks[i].SSRCs, markSSRC)
	}
	return c
}

func roomyReq(q delta.Req) delta.Req {
	q.SSRCs = withSpare(q.SSRCs, markSSRC)
	return q
}

// untouched tells whether a roomy state is as it was, with its marks.
func untouched(t *testing.T, in, s delta.State) {
	t.Helper()
	same(t, "handed in", in, s)
	for i := range spare {
		if in.People[:len(in.People)+spare][len(in.People)+i] != markPerson || in.Subs[:len(in.Subs)+spare][len(in.Subs)+i] != markSub {
			t.Fatal("what stands behind an end was written over")
		}
		if x := in.Tracks[:len(in.Tracks)+spare][len(in.Tracks)+i]; !sameTrack(x, markTrack) {
			t.Fatal("what stands behind the tracks' end was written over")
		}
		for _, x := range in.Tracks {
			if x.SSRCs[:len(x.SSRCs)+spare][len(x.SSRCs)+i] != markSSRC {
				t.Fatal("what stands behind a track's SSRCs was written over")
			}
		}
	}
}

// untouchedReq tells whether a roomy request is as it was, with its marks.
func untouchedReq(t *testing.T, in, q delta.Req) {
	t.Helper()
	if !slices.Equal(in.SSRCs, q.SSRCs) {
		t.Fatalf("a request's SSRCs: %v, which were %v", in.SSRCs, q.SSRCs)
	}
	for _, ssrc := range in.SSRCs[:len(q.SSRCs)+spare][len(q.SSRCs):] {
		if ssrc != markSSRC {
			t.Fatal("what stands behind a request's SSRCs was written over")
		}
	}
}

// writeOver writes over all of a state, and over what stands behind its ends.
func writeOver(s delta.State) {
	for _, x := range s.Tracks[:cap(s.Tracks)] {
		overSSRCs(x.SSRCs)
	}
	over(s.People, delta.Person{Who: 501, Room: 8, Rights: 1})
	over(s.Tracks, delta.Track{Id: 502, Owner: 501, From: 9, SSRCs: []uint32{503}})
	over(s.Subs, delta.Sub{Who: 504, Track: 502, Layer: 2, Tid: 3, Muted: true})
}

func writeOverReq(q delta.Req) { overSSRCs(q.SSRCs) }

func overSSRCs(l []uint32) { over(l, 505) }

func over[T any](row []T, x T) {
	for i := range row[:cap(row)] {
		row[:cap(row)][i] = x
	}
}

// apart tells whether no two rows of one state share memory, by adding to each.
func apart(t *testing.T, s delta.State) {
	t.Helper()
	was := deep(s)
	_ = append(s.People, markPerson)
	_ = append(s.Tracks, markTrack)
	_ = append(s.Subs, markSub)
	for _, x := range s.Tracks {
		_ = append(x.SSRCs, markSSRC, markSSRC, markSSRC)
	}
	same(t, "added to", s, was)
	for i := range s.Tracks {
		now, mine := deep(s), slices.Clone(s.Tracks[i].SSRCs)
		overSSRCs(s.Tracks[i].SSRCs)
		for j := range s.Tracks {
			if j != i && !sameTrack(s.Tracks[j], now.Tracks[j]) {
				t.Fatalf("tracks %d and %d share SSRCs", i, j)
			}
		}
		copy(s.Tracks[i].SSRCs, mine)
	}
}

func sameTrack(a, b delta.Track) bool {
	return a.Id == b.Id && a.Owner == b.Owner && a.From == b.From && slices.Equal(a.SSRCs, b.SSRCs)
}

func equal(a, b delta.State) bool {
	return a.Conf == b.Conf && slices.Equal(a.People, b.People) &&
		slices.EqualFunc(a.Tracks, b.Tracks, sameTrack) && slices.Equal(a.Subs, b.Subs)
}

// same tells whether two states are the same.
func same(t *testing.T, what string, got, want delta.State) {
	t.Helper()
	if !equal(got, want) {
		t.Fatalf("%s: %v, not %v", what, got, want)
	}
}
