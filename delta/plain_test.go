package delta_test

import (
	"cmp"
	"slices"
	"testing"

	"louver/api"
	"louver/delta"
)

// The chapter's words, written plainly: a state is gone through from its begin, and what comes of it is put in order at the end.

// plain is what comes of a request.
func plain(s delta.State, q delta.Req) (delta.State, api.Errno) {
	n := deep(s)
	err := plainKind(&n, q)
	if err != api.OK {
		return s, err
	}
	slices.SortFunc(n.People, func(a, b delta.Person) int { return cmp.Compare(a.Who, b.Who) })
	slices.SortFunc(n.Tracks, func(a, b delta.Track) int { return cmp.Compare(a.Id, b.Id) })
	slices.SortFunc(n.Subs, func(a, b delta.Sub) int {
		return cmp.Or(cmp.Compare(a.Who, b.Who), cmp.Compare(a.Track, b.Track))
	})
	return n, api.OK
}

func plainKind(n *delta.State, q delta.Req) api.Errno {
	if q.Kind < 0 || q.Kind > 9 {
		return api.ErrArg
	}
	if q.Kind == 0 {
		return plainJoin(n, q)
	}
	for _, p := range n.People {
		if p.Who != q.Who {
			continue
		}
		switch q.Kind {
		case 1:
			return plainLeave(n, q)
		case 2:
			return plainPublish(n, p, q)
		case 3, 4:
			return plainOwn(n, q)
		case 5:
			return plainSubscribe(n, p, q)
		default:
			return plainSent(n, q)
		}
	}
	return api.ErrNone
}

func plainJoin(n *delta.State, q delta.Req) api.Errno {
	if q.Who < 1 || q.Who > 999 || q.Room < 1 || q.Room > 9 || q.Rights < 0 || q.Rights > 3 {
		return api.ErrArg
	}
	for _, p := range n.People {
		if p.Who == q.Who {
			return api.ErrTwice
		}
	}
	if len(n.People) >= n.Conf.People {
		return api.ErrFull
	}
	n.People = append(n.People, delta.Person{Who: q.Who, Room: q.Room, Rights: q.Rights})
	return api.OK
}

func plainLeave(n *delta.State, q delta.Req) api.Errno {
	was := *n
	n.People, n.Tracks, n.Subs = nil, nil, nil
	theirs := map[int]bool{}
	for _, p := range was.People {
		if p.Who != q.Who {
			n.People = append(n.People, p)
		}
	}
	for _, x := range was.Tracks {
		if x.Owner == q.Who {
			theirs[x.Id] = true
		} else {
			n.Tracks = append(n.Tracks, x)
		}
	}
	for _, x := range was.Subs {
		if x.Who != q.Who && !theirs[x.Track] {
			n.Subs = append(n.Subs, x)
		}
	}
	return api.OK
}

// plainSSRCs tells whether SSRCs may be, and whether a track has one of them.
func plainSSRCs(n *delta.State, ssrcs []uint32) (may, there bool) {
	if len(ssrcs) == 0 || len(ssrcs) > 3 {
		return false, false
	}
	seen := map[uint32]int{}
	for _, ssrc := range ssrcs {
		seen[ssrc]++
		if ssrc < 1 || ssrc > 2147483647 || seen[ssrc] > 1 {
			return false, false
		}
	}
	for _, x := range n.Tracks {
		for _, ssrc := range x.SSRCs {
			there = there || seen[ssrc] > 0
		}
	}
	return true, there
}

func plainPublish(n *delta.State, p delta.Person, q delta.Req) api.Errno {
	if p.Rights != 1 && p.Rights != 3 {
		return api.ErrRight
	}
	may, there := plainSSRCs(n, q.SSRCs)
	if q.Track < 1 || q.Track > 999 || !may {
		return api.ErrArg
	}
	for _, x := range n.Tracks {
		there = there || x.Id == q.Track
	}
	if there {
		return api.ErrTwice
	}
	if len(n.Tracks) >= n.Conf.Tracks {
		return api.ErrFull
	}
	n.Tracks = append(n.Tracks, delta.Track{Id: q.Track, Owner: q.Who, SSRCs: slices.Clone(q.SSRCs)})
	return api.OK
}

// plainOwn is of Unpublish and Replace.
func plainOwn(n *delta.State, q delta.Req) api.Errno {
	for i, x := range n.Tracks {
		if x.Id != q.Track {
			continue
		}
		if x.Owner != q.Who {
			return api.ErrRight
		}
		if q.Kind == 3 {
			n.Tracks = append(n.Tracks[:i], n.Tracks[i+1:]...)
			subs := n.Subs
			n.Subs = nil
			for _, y := range subs {
				if y.Track != q.Track {
					n.Subs = append(n.Subs, y)
				}
			}
			return api.OK
		}
		may, there := plainSSRCs(n, q.SSRCs)
		if !may {
			return api.ErrArg
		}
		if there {
			return api.ErrTwice
		}
		n.Tracks[i].SSRCs = slices.Clone(q.SSRCs)
		n.Tracks[i].From = x.From + 1
		return api.OK
	}
	return api.ErrNone
}

func plainSubscribe(n *delta.State, p delta.Person, q delta.Req) api.Errno {
	if p.Rights != 2 && p.Rights != 3 {
		return api.ErrRight
	}
	owner := 0
	for _, x := range n.Tracks {
		if x.Id == q.Track {
			owner = x.Owner
		}
	}
	if owner == 0 {
		return api.ErrNone
	}
	for _, o := range n.People {
		if o.Who == owner && o.Room != p.Room {
			return api.ErrRight
		}
	}
	theirs := 0
	for _, x := range n.Subs {
		if x.Who == q.Who {
			theirs++
			if x.Track == q.Track {
				return api.ErrTwice
			}
		}
	}
	if q.Layer < 0 || q.Layer > 2 || q.Tid < 0 || q.Tid > 3 {
		return api.ErrArg
	}
	if theirs >= n.Conf.Subs {
		return api.ErrQuota
	}
	if len(n.Subs) >= n.Conf.Slots {
		return api.ErrFull
	}
	n.Subs = append(n.Subs, delta.Sub{Who: q.Who, Track: q.Track, Layer: q.Layer, Tid: q.Tid})
	return api.OK
}

// plainSent is of what somebody is sent.
func plainSent(n *delta.State, q delta.Req) api.Errno {
	for i := range n.Subs {
		x := &n.Subs[i]
		if x.Who != q.Who || x.Track != q.Track {
			continue
		}
		switch q.Kind {
		case 6:
			n.Subs = append(n.Subs[:i], n.Subs[i+1:]...)
		case 7:
			if x.Muted {
				return api.ErrState
			}
			x.Muted = true
		case 8:
			if !x.Muted {
				return api.ErrState
			}
			x.Muted = false
		case 9:
			if q.Layer < 0 || q.Layer > 2 || q.Tid < 0 || q.Tid > 3 {
				return api.ErrArg
			}
			x.Layer, x.Tid = q.Layer, q.Tid
		}
		return api.OK
	}
	return api.ErrNone
}

// plainGone are subs of a of whose Who and Track b has none.
func plainGone(a, b delta.State) []delta.Sub {
	var gone []delta.Sub
	for _, x := range a.Subs {
		there := 0
		for _, y := range b.Subs {
			if x.Who == y.Who && x.Track == y.Track {
				there++
			}
		}
		if there == 0 {
			gone = append(gone, x)
		}
	}
	return gone
}

// sound tells whether a state is one by 'Words', and P18.5 holds for it, and no more is there than may be.
func sound(t *testing.T, s delta.State) {
	t.Helper()
	rooms := map[int]int{}
	for i, p := range s.People {
		if i > 0 && p.Who <= s.People[i-1].Who {
			t.Fatalf("people don't rise: %v", s.People)
		}
		rooms[p.Who] = p.Room
	}
	owners, ssrcs := map[int]int{}, map[uint32]int{}
	for i, x := range s.Tracks {
		if i > 0 && x.Id <= s.Tracks[i-1].Id {
			t.Fatalf("tracks don't rise: %v", s.Tracks)
		}
		if rooms[x.Owner] == 0 {
			t.Fatalf("track %v of nobody: %v", x, s.People)
		}
		owners[x.Id] = x.Owner
		for _, ssrc := range x.SSRCs {
			if ssrcs[ssrc]++; ssrcs[ssrc] > 1 {
				t.Fatalf("SSRC %d twice: %v", ssrc, s.Tracks)
			}
		}
	}
	theirs := map[int]int{}
	for i, x := range s.Subs {
		if i > 0 && (x.Who < s.Subs[i-1].Who || x.Who == s.Subs[i-1].Who && x.Track <= s.Subs[i-1].Track) {
			t.Fatalf("subs don't rise: %v", s.Subs)
		}
		if rooms[x.Who] == 0 || owners[x.Track] == 0 || rooms[x.Who] != rooms[owners[x.Track]] {
			t.Fatalf("sub %v may not be: %v", x, s)
		}
		theirs[x.Who]++
		if theirs[x.Who] > s.Conf.Subs {
			t.Fatalf("too many subs of %d: %v", x.Who, s.Subs)
		}
	}
	if len(s.People) > s.Conf.People || len(s.Tracks) > s.Conf.Tracks || len(s.Subs) > s.Conf.Slots {
		t.Fatalf("more than may be: %v", s)
	}
}
