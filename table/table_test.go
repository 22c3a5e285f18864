package table_test

import (
	"cmp"
	"fmt"
	"math"
	"math/rand/v2"
	"slices"
	"testing"

	"louver/api"
	"louver/table"
)

const (
	own  = uint32(api.Own)        // the lowest SSRC of downtracks
	last = uint32(math.MaxUint32) // the highest one
	top  = math.MaxUint64         // the highest epoch that there may be
)

// edges are numbers of tracks, layers and people.
var edges = []int{0, 1, -1, 2, 3, 4, 7, 8, 10, 16, 32, 64, 100, 127, 128, 255, 256, 257, 999, 1000, 65535, 65536, math.MaxInt32, math.MinInt32, math.MaxUint32, 1 << 32, 1<<32 + 1, -1 << 32, math.MaxInt - 1, math.MaxInt, math.MinInt, math.MinInt + 1}

// route is one that shares nothing with those of other numbers.
func route(n int) table.Route {
	return table.Route{SSRC: uint32(1000 + n), Track: 2000 + n, From: 3000 + n, Layer: 4000 + n, Shard: 5000 + n}
}

// down is one that shares nothing with those of other numbers, but whether it is muted.
func down(n int) table.Down {
	return table.Down{
		SSRC: own + uint32(1000+n), Ref: api.Ref{Slot: 6000 + n, Turn: uint32(7000 + n)},
		Who: 8000 + n, Track: 2000 + n, Shard: 5000 + n, From: 3000 + n, Layer: 4000 + n, Tid: 9000 + n, Muted: n%2 == 1,
	}
}

// routesOf are so many of them.
func routesOf(many int) []table.Route {
	var l []table.Route
	for n := range many {
		l = append(l, route(n))
	}
	return l
}

// downsOf are so many of them.
func downsOf(many int) []table.Down {
	var l []table.Down
	for n := range many {
		l = append(l, down(n))
	}
	return l
}

// downsTo are downtracks of one track, to these people, in this order.
func downsTo(track int, whos ...int) []table.Down {
	l := downsOf(len(whos))
	for i, who := range whos {
		l[i].Track, l[i].Who = track, who
	}
	return l
}

// made is the table of what may be one.
func made(t *testing.T, epoch uint64, routes []table.Route, downs []table.Down) *table.Table {
	t.Helper()
	tab, err := table.Make(epoch, routes, downs)
	if tab == nil || err != api.OK {
		t.Fatalf("routes %v, downtracks %v: error %d, and a table: %v", routes, downs, err, tab != nil)
	}
	return tab
}

// refused tells whether what may not be a table is none.
func refused(t *testing.T, routes []table.Route, downs []table.Down) {
	t.Helper()
	for _, epoch := range []uint64{0, 1, 7, top} {
		if tab, err := table.Make(epoch, routes, downs); tab != nil || err != api.ErrArg {
			t.Fatalf("routes %v, downtracks %v: error %d, and a table: %v", routes, downs, err, tab != nil)
		}
	}
}

// makes tells whether what may be a table is just that, and what may not is none.
func makes(t *testing.T, may bool, routes []table.Route, downs []table.Down) {
	t.Helper()
	if !may {
		refused(t, routes, downs)
		return
	}
	holds(t, made(t, 7, routes, downs), 7, routes, downs)
}

// find is the first one of which something holds, looked for plainly.
func find[T any](l []T, is func(T) bool) (T, bool) {
	for _, x := range l {
		if is(x) {
			return x, true
		}
	}
	var none T
	return none, false
}

// around are numbers, those next to them, and a few others.
func around(l ...int) []int {
	all := []int{0, 1, -1, 5, math.MinInt, math.MaxInt}
	for _, n := range l {
		all = append(all, n, n-1, n+1, -n, n^1<<32)
	}
	slices.Sort(all)
	return slices.Compact(all)
}

// holds tells whether a table has just these, by all of its calls, twice: who looks changes nothing.
func holds(t *testing.T, tab *table.Table, epoch uint64, routes []table.Route, downs []table.Down) {
	t.Helper()
	for range 2 {
		if got := tab.Epoch(); got != epoch {
			t.Fatalf("epoch: %d, not %d", got, epoch)
		}
		if got := tab.Len(); got != len(downs) {
			t.Fatalf("%d downtracks, not %d", got, len(downs))
		}
		ssrcsHold(t, tab, routes, downs)
		sourcesHold(t, tab, routes, downs)
		for _, track := range tracksOf(routes, downs) {
			tells(t, tab, track, sorted(downs, track)...)
		}
	}
}

// ssrcsHold looks at all SSRCs that there are, of either kind, and at others near them.
func ssrcsHold(t *testing.T, tab *table.Table, routes []table.Route, downs []table.Down) {
	t.Helper()
	ssrcs := []uint32{0, 1, own - 1, own, own + 1, last}
	for _, r := range routes {
		ssrcs = append(ssrcs, r.SSRC, r.SSRC-1, r.SSRC+1, r.SSRC^own, r.SSRC^1<<16)
	}
	for _, d := range downs {
		ssrcs = append(ssrcs, d.SSRC, d.SSRC-1, d.SSRC+1, d.SSRC^own, d.SSRC^1<<16)
	}
	for _, ssrc := range ssrcs {
		wantRoute, is := find(routes, func(r table.Route) bool { return r.SSRC == ssrc })
		if got, ok := tab.Route(ssrc); got != wantRoute || ok != is {
			t.Fatalf("route of %d: %v, %v, not %v, %v", ssrc, got, ok, wantRoute, is)
		}
		wantDown, is := find(downs, func(d table.Down) bool { return d.SSRC == ssrc })
		if got, ok := tab.Own(ssrc); got != wantDown || ok != is {
			t.Fatalf("downtrack of %d: %v, %v, not %v, %v", ssrc, got, ok, wantDown, is)
		}
	}
}

// sourcesHold looks at all tracks and layers that there are, at others near them, and at layers of downtracks.
func sourcesHold(t *testing.T, tab *table.Table, routes []table.Route, downs []table.Down) {
	t.Helper()
	source := func(track, layer int) {
		want, is := find(routes, func(r table.Route) bool { return r.Track == track && r.Layer == layer })
		if got, ok := tab.Source(track, layer); got != want.SSRC || ok != is {
			t.Fatalf("source of %d, %d: %d, %v, not %d, %v", track, layer, got, ok, want.SSRC, is)
		}
	}
	for _, r := range routes {
		for _, n := range around(r.Layer) {
			source(r.Track, n)
		}
		for _, n := range around(r.Track) {
			source(n, r.Layer)
		}
		source(r.Layer, r.Track)
	}
	for _, d := range downs {
		source(d.Track, d.Layer)
		source(d.Track, d.Layer+1)
	}
	source(0, 0)
}

// tracksOf are all tracks that there are, of routes or of downtracks, and others near them.
func tracksOf(routes []table.Route, downs []table.Down) []int {
	var tracks []int
	for _, r := range routes {
		tracks = append(tracks, r.Track)
	}
	for _, d := range downs {
		tracks = append(tracks, d.Track)
	}
	return around(tracks...)
}

// sorted are a track's downtracks of a list, by rising Who.
func sorted(downs []table.Down, track int) []table.Down {
	l := slices.Clone(downs)
	l = slices.DeleteFunc(l, func(d table.Down) bool { return d.Track != track })
	slices.SortFunc(l, func(a, b table.Down) int { return cmp.Compare(a.Who, b.Who) })
	return l
}

// tells tells whether a track has just these downtracks, in order.
func tells(t *testing.T, tab *table.Table, track int, want ...table.Down) {
	t.Helper()
	if got := tab.Downs(track); !slices.Equal(got, want) {
		t.Fatalf("downtracks of %d: %v, not %v", track, got, want)
	}
}

// mayBe tells whether these may be a table, by the chapter's words, pair by pair.
func mayBe(routes []table.Route, downs []table.Down) bool {
	for i, a := range routes {
		if a.SSRC >= own {
			return false
		}
		for _, b := range routes[:i] {
			if a.SSRC == b.SSRC || a.Track == b.Track && a.Layer == b.Layer {
				return false
			}
		}
	}
	for i, a := range downs {
		if a.SSRC < own {
			return false
		}
		for _, b := range downs[:i] {
			if a.SSRC == b.SSRC || a.Ref == b.Ref || a.Who == b.Who && a.Track == b.Track {
				return false
			}
		}
	}
	return true
}

// orders are all orders of so many.
func orders(many int) [][]int {
	if many == 0 {
		return [][]int{{}}
	}
	var all [][]int
	for _, order := range orders(many - 1) {
		for place := range many {
			all = append(all, slices.Insert(slices.Clone(order), place, many-1))
		}
	}
	return all
}

// inOrder is a list in another order.
func inOrder[T any](l []T, order []int) []T {
	var other []T
	for _, place := range order {
		other = append(other, l[place])
	}
	return other
}

// P17.1

func TestMakeOfNothing(t *testing.T) {
	for _, epoch := range []uint64{0, 1, 7, math.MaxInt64, math.MaxInt64 + 1, top} {
		holds(t, made(t, epoch, nil, nil), epoch, nil, nil)
		holds(t, made(t, epoch, []table.Route{}, []table.Down{}), epoch, nil, nil)
		holds(t, made(t, epoch, nil, []table.Down{}), epoch, nil, nil)
		holds(t, made(t, epoch, make([]table.Route, 0, 9), nil), epoch, nil, nil)
	}
}

func TestMakeOfFewAndOfMany(t *testing.T) {
	for _, many := range []int{1, 2, 3, 16, 48, 64, 65, 100, 300} {
		holds(t, made(t, 5, routesOf(many), nil), 5, routesOf(many), nil)
		holds(t, made(t, 6, nil, downsOf(many)), 6, nil, downsOf(many))
		holds(t, made(t, 7, routesOf(many), downsOf(many)), 7, routesOf(many), downsOf(many))
	}
}

func TestSSRCsOfRoutes(t *testing.T) {
	for _, ssrc := range []uint32{0, 1, 2, 255, 256, 65535, 65536, 1<<24 + 1, 1 << 30, own - 2, own - 1, own, own + 1, own + 2, own + 65536, own + 1<<30, last - 1, last} {
		for many := 1; many <= 5; many++ {
			for place := range many {
				routes := routesOf(many)
				routes[place].SSRC = ssrc
				makes(t, ssrc <= 2147483647, routes, nil)
				makes(t, ssrc <= 2147483647, routes, downsOf(2))
			}
		}
	}
}

func TestSSRCsOfDowns(t *testing.T) {
	for _, ssrc := range []uint32{0, 1, 2, 255, 256, 65535, 65536, 1<<24 + 1, 1 << 30, own - 2, own - 1, own, own + 1, own + 2, own + 65536, own + 1<<30, last - 1, last} {
		for many := 1; many <= 5; many++ {
			for place := range many {
				downs := downsOf(many)
				downs[place].SSRC = ssrc
				makes(t, ssrc >= 2147483648, nil, downs)
				makes(t, ssrc >= 2147483648, routesOf(2), downs)
			}
		}
	}
}

// All SSRCs of the other kind: each is wrong, though no two are the same.
func TestSSRCsOfTheOtherKind(t *testing.T) {
	routes, downs := routesOf(3), downsOf(3)
	for i := range 3 {
		routes[i].SSRC, downs[i].SSRC = downs[i].SSRC, routes[i].SSRC
	}
	refused(t, routes, downs)
	refused(t, routes, downsOf(3))
	refused(t, routesOf(3), downs)
	refused(t, routes, nil)
	refused(t, nil, downs)
}

// SSRCs that are alike but for one bit are two, of routes and of downtracks.
func TestSSRCsThatDifferByOneBit(t *testing.T) {
	for _, low := range []uint32{0, 5, 0x55555555, own - 1} {
		routes, downs := routesOf(32), downsOf(32)
		for bit := range 31 {
			routes[bit].SSRC, downs[bit].SSRC = low^1<<bit, own|low^1<<bit
		}
		routes[31].SSRC, downs[31].SSRC = low, own|low
		holds(t, made(t, 3, routes, downs), 3, routes, downs)
	}
}

// sharing is what one may share with another one, and whether both may be.
type sharing[T any] struct {
	name  string
	may   bool
	share func(a, b T) T // b, as it shares that with a
}

var twoRoutes = []sharing[table.Route]{
	{"nothing", true, func(a, b table.Route) table.Route { return b }},
	{"the SSRC", false, func(a, b table.Route) table.Route { b.SSRC = a.SSRC; return b }},
	{"Track and Layer", false, func(a, b table.Route) table.Route { b.Track, b.Layer = a.Track, a.Layer; return b }},
	{"Track alone", true, func(a, b table.Route) table.Route { b.Track = a.Track; return b }},
	{"Layer alone", true, func(a, b table.Route) table.Route { b.Layer = a.Layer; return b }},
	{"From alone", true, func(a, b table.Route) table.Route { b.From = a.From; return b }},
	{"Shard alone", true, func(a, b table.Route) table.Route { b.Shard = a.Shard; return b }},
	{"From and Shard", true, func(a, b table.Route) table.Route { b.From, b.Shard = a.From, a.Shard; return b }},
	{"Track and Layer, the other way round", true, func(a, b table.Route) table.Route { b.Track, b.Layer = a.Layer, a.Track; return b }},
	{"SSRC and Track", false, func(a, b table.Route) table.Route { b.SSRC, b.Track = a.SSRC, a.Track; return b }},
	{"SSRC and Layer", false, func(a, b table.Route) table.Route { b.SSRC, b.Layer = a.SSRC, a.Layer; return b }},
	{"all", false, func(a, b table.Route) table.Route { return a }},
	{"all but the SSRC", false, func(a, b table.Route) table.Route { a.SSRC = b.SSRC; return a }},
	{"all but the Track", false, func(a, b table.Route) table.Route { a.Track = b.Track; return a }},
	{"all but the Layer", false, func(a, b table.Route) table.Route { a.Layer = b.Layer; return a }},
	{"all but From", false, func(a, b table.Route) table.Route { a.From = b.From; return a }},
	{"all but the Shard", false, func(a, b table.Route) table.Route { a.Shard = b.Shard; return a }},
	{"all but SSRC and Track", true, func(a, b table.Route) table.Route { a.SSRC, a.Track = b.SSRC, b.Track; return a }},
	{"all but SSRC and Layer", true, func(a, b table.Route) table.Route { a.SSRC, a.Layer = b.SSRC, b.Layer; return a }},
	{"all but Track and Layer", false, func(a, b table.Route) table.Route { a.Track, a.Layer = b.Track, b.Layer; return a }},
	{"all but SSRC, From and Shard", false, func(a, b table.Route) table.Route {
		a.SSRC, a.From, a.Shard = b.SSRC, b.From, b.Shard
		return a
	}},
}

// eachTwo lets each two of some share that, next to each other and far apart, whichever of them stands first.
func (s sharing[T]) eachTwo(of func(many int) []T, check func(l []T)) {
	for _, many := range []int{2, 3, 6} {
		for i := range many {
			for j := range many {
				if i == j {
					continue
				}
				l := of(many)
				l[j] = s.share(l[i], l[j])
				check(slices.Clone(l))
				slices.Reverse(l)
				check(l)
			}
		}
	}
}

func TestTwoRoutes(t *testing.T) {
	for _, c := range twoRoutes {
		t.Run(c.name, func(t *testing.T) {
			c.eachTwo(routesOf, func(routes []table.Route) {
				makes(t, c.may, routes, nil)
				makes(t, c.may, routes, downsOf(3))
			})
		})
	}
}

var twoDowns = []sharing[table.Down]{
	{"nothing", true, func(a, b table.Down) table.Down { return b }},
	{"the SSRC", false, func(a, b table.Down) table.Down { b.SSRC = a.SSRC; return b }},
	{"Who and Track", false, func(a, b table.Down) table.Down { b.Who, b.Track = a.Who, a.Track; return b }},
	{"the Ref", false, func(a, b table.Down) table.Down { b.Ref = a.Ref; return b }},
	{"Who alone", true, func(a, b table.Down) table.Down { b.Who = a.Who; return b }},
	{"Track alone", true, func(a, b table.Down) table.Down { b.Track = a.Track; return b }},
	{"the Slot alone", true, func(a, b table.Down) table.Down { b.Ref.Slot = a.Ref.Slot; return b }},
	{"the Turn alone", true, func(a, b table.Down) table.Down { b.Ref.Turn = a.Ref.Turn; return b }},
	{"Shard alone", true, func(a, b table.Down) table.Down { b.Shard = a.Shard; return b }},
	{"From alone", true, func(a, b table.Down) table.Down { b.From = a.From; return b }},
	{"Layer alone", true, func(a, b table.Down) table.Down { b.Layer = a.Layer; return b }},
	{"Tid alone", true, func(a, b table.Down) table.Down { b.Tid = a.Tid; return b }},
	{"Muted alone", true, func(a, b table.Down) table.Down { b.Muted = a.Muted; return b }},
	{"Track and Layer", true, func(a, b table.Down) table.Down { b.Track, b.Layer = a.Track, a.Layer; return b }},
	{"Who and Layer", true, func(a, b table.Down) table.Down { b.Who, b.Layer = a.Who, a.Layer; return b }},
	{"Who and Slot", true, func(a, b table.Down) table.Down { b.Who, b.Ref.Slot = a.Who, a.Ref.Slot; return b }},
	{"Track and Turn", true, func(a, b table.Down) table.Down { b.Track, b.Ref.Turn = a.Track, a.Ref.Turn; return b }},
	{"Who and Track, the other way round", true, func(a, b table.Down) table.Down { b.Who, b.Track = a.Track, a.Who; return b }},
	{"Slot and Turn, the other way round", true, func(a, b table.Down) table.Down {
		b.Ref = api.Ref{Slot: int(a.Ref.Turn), Turn: uint32(a.Ref.Slot)}
		return b
	}},
	{"all", false, func(a, b table.Down) table.Down { return a }},
	{"all but the SSRC", false, func(a, b table.Down) table.Down { a.SSRC = b.SSRC; return a }},
	{"all but the Ref", false, func(a, b table.Down) table.Down { a.Ref = b.Ref; return a }},
	{"all but Who", false, func(a, b table.Down) table.Down { a.Who = b.Who; return a }},
	{"all but the Track", false, func(a, b table.Down) table.Down { a.Track = b.Track; return a }},
	{"all but SSRC and Ref", false, func(a, b table.Down) table.Down { a.SSRC, a.Ref = b.SSRC, b.Ref; return a }},
	{"Who, Track and Turn", false, func(a, b table.Down) table.Down {
		b.Who, b.Track, b.Ref.Turn = a.Who, a.Track, a.Ref.Turn
		return b
	}},
	{"all but SSRC and Who", false, func(a, b table.Down) table.Down { a.SSRC, a.Who = b.SSRC, b.Who; return a }},
	{"all but SSRC and Track", false, func(a, b table.Down) table.Down { a.SSRC, a.Track = b.SSRC, b.Track; return a }},
	{"all but Ref and Who", false, func(a, b table.Down) table.Down { a.Ref, a.Who = b.Ref, b.Who; return a }},
	{"all but Ref and Track", false, func(a, b table.Down) table.Down { a.Ref, a.Track = b.Ref, b.Track; return a }},
	{"all but SSRC, Ref and Who", true, func(a, b table.Down) table.Down {
		a.SSRC, a.Ref, a.Who = b.SSRC, b.Ref, b.Who
		return a
	}},
	{"all but SSRC, Ref and Track", true, func(a, b table.Down) table.Down {
		a.SSRC, a.Ref, a.Track = b.SSRC, b.Ref, b.Track
		return a
	}},
	{"all but SSRC, Slot and Who", true, func(a, b table.Down) table.Down {
		a.SSRC, a.Ref.Slot, a.Who = b.SSRC, b.Ref.Slot, b.Who
		return a
	}},
	{"all but SSRC, Turn and Track", true, func(a, b table.Down) table.Down {
		a.SSRC, a.Ref.Turn, a.Track = b.SSRC, b.Ref.Turn, b.Track
		return a
	}},
}

func TestTwoDowns(t *testing.T) {
	for _, c := range twoDowns {
		t.Run(c.name, func(t *testing.T) {
			c.eachTwo(downsOf, func(downs []table.Down) {
				makes(t, c.may, nil, downs)
				makes(t, c.may, routesOf(3), downs)
			})
		})
	}
}

// Those two stand at either end of many.
func TestTwoThatAreFarApart(t *testing.T) {
	for _, many := range []int{48, 64, 65, 300, 2000} {
		routes, downs := routesOf(many), downsOf(many)
		for _, c := range twoRoutes {
			l := append(slices.Clone(routes), c.share(routes[0], route(many)))
			if _, err := table.Make(1, l, downs); (err == api.OK) != c.may {
				t.Errorf("%s, of %d routes: error %d", c.name, many, err)
			}
		}
		for _, c := range twoDowns {
			l := append(slices.Clone(downs), c.share(downs[0], down(many)))
			if _, err := table.Make(1, routes, l); (err == api.OK) != c.may {
				t.Errorf("%s, of %d downtracks: error %d", c.name, many, err)
			}
		}
	}
}

// What may not be is refused, whatever else is told, and though the other list is right or wrong, too.
func TestOneWrongListIsEnough(t *testing.T) {
	badRoutes, badDowns := append(routesOf(4), route(2)), append(downsOf(4), down(1))
	refused(t, badRoutes, downsOf(4))
	refused(t, routesOf(4), badDowns)
	refused(t, badRoutes, badDowns)
	refused(t, badRoutes, nil)
	refused(t, nil, badDowns)
}

// Routes and downtracks may share all that both have, but the SSRC, which no two of both kinds can share.
func TestRoutesAndDownsPlayNoPartForEachOther(t *testing.T) {
	routes, downs := routesOf(5), downsOf(5)
	for i := range 5 {
		routes[i] = table.Route{SSRC: uint32(i), Track: i / 3, From: 1, Layer: i % 3, Shard: 2}
		downs[i] = table.Down{SSRC: own + uint32(i), Ref: api.Ref{Slot: i}, Who: i % 3, Track: i / 3, Shard: 2, From: 1, Layer: i % 3, Tid: i}
	}
	holds(t, made(t, 1, routes, downs), 1, routes, downs)
}

// Each two numbers of a Track and a Layer are a source of their own.
func TestAllMixesOfTrackAndLayer(t *testing.T) {
	var routes []table.Route
	for _, track := range edges {
		for _, layer := range edges {
			n := len(routes)
			routes = append(routes, table.Route{SSRC: uint32(n), Track: track, From: n, Layer: layer, Shard: -n})
		}
	}
	tab := made(t, 1, routes, nil)
	ssrcsHold(t, tab, routes, nil)
	for _, r := range routes {
		if ssrc, ok := tab.Source(r.Track, r.Layer); ssrc != r.SSRC || !ok {
			t.Fatalf("source of %d, %d: %d, %v, not %d", r.Track, r.Layer, ssrc, ok, r.SSRC)
		}
		again := r
		again.SSRC = own - 1
		refused(t, append(slices.Clip(routes), again), nil)
	}
}

// Each two numbers of a Who and a Track may be a downtrack, once.
func TestAllMixesOfWhoAndTrack(t *testing.T) {
	var downs []table.Down
	for _, who := range edges {
		for _, track := range edges {
			d := down(len(downs))
			d.Who, d.Track = who, track
			downs = append(downs, d)
		}
	}
	tab := made(t, 1, nil, downs)
	ssrcsHold(t, tab, nil, downs)
	for _, track := range edges {
		tells(t, tab, track, sorted(downs, track)...)
	}
	for _, d := range downs {
		again := down(len(downs))
		again.Who, again.Track = d.Who, d.Track
		refused(t, nil, append(slices.Clip(downs), again))
	}
}

// Each slot may be used by each turn, once.
func TestAllMixesOfSlotAndTurn(t *testing.T) {
	turns := []uint32{0, 1, 2, 3, 63, 64, 65, 255, 256, 65535, 65536, own - 1, own, own + 1, last - 1, last}
	var downs []table.Down
	for _, slot := range edges {
		for _, turn := range turns {
			d := down(len(downs))
			d.Ref = api.Ref{Slot: slot, Turn: turn}
			downs = append(downs, d)
		}
	}
	ssrcsHold(t, made(t, 1, nil, downs), nil, downs)
	for _, d := range downs {
		again := down(len(downs))
		again.Ref = d.Ref
		refused(t, nil, append(slices.Clip(downs), again))
	}
}

// What no promise speaks of may be anything, and is told as it was.
func TestFieldsThatMayBeAnything(t *testing.T) {
	for _, a := range edges {
		for _, b := range edges {
			routes := []table.Route{{SSRC: 1, Track: a, From: b, Layer: a, Shard: b}, {SSRC: 2, Track: b, From: a, Layer: a + 1, Shard: a}}
			downs := []table.Down{
				{SSRC: own, Ref: api.Ref{Slot: a}, Who: b, Track: a, Shard: b, From: a, Layer: b, Tid: a, Muted: true},
				{SSRC: last, Ref: api.Ref{Slot: a, Turn: 1}, Who: b, Track: a + 1, Shard: a, From: b, Layer: a, Tid: b},
			}
			holds(t, made(t, 1, routes, downs), 1, routes, downs)
		}
	}
}

func TestWhatWasHandedInMayBeWrittenOver(t *testing.T) {
	routes, downs := routesOf(6), downsOf(6)
	for i := range 6 {
		downs[i].Track = route(i % 2).Track
	}
	routesWere, downsWere := slices.Clone(routes), slices.Clone(downs)
	tab := made(t, 1, routes, downs)
	if !slices.Equal(routes, routesWere) || !slices.Equal(downs, downsWere) {
		t.Fatalf("Make changed what was handed in: %v, %v", routes, downs)
	}
	for i := range 6 {
		routes[i], downs[i] = table.Route{SSRC: own + uint32(i)}, table.Down{SSRC: uint32(i)}
		holds(t, tab, 1, routesWere, downsWere)
	}
	routes, downs = append(routes[:0], route(20)), append(downs[:0], down(20))
	holds(t, tab, 1, routesWere, downsWere)
	other := made(t, 2, routes, downs)
	holds(t, other, 2, routes, downs)
	holds(t, tab, 1, routesWere, downsWere)
}

// Also what is refused is not changed.
func TestWhatIsHandedInIsNotChanged(t *testing.T) {
	for bad := range 6 {
		routes, downs := routesOf(6), downsOf(6)
		slices.Reverse(routes)
		slices.Reverse(downs)
		downs[bad].Ref = downs[(bad+1)%6].Ref
		routesWere, downsWere := slices.Clone(routes), slices.Clone(downs)
		refused(t, routes, downs)
		routes[bad].SSRC += own
		routesWere[bad].SSRC += own
		refused(t, routes, downs)
		if !slices.Equal(routes, routesWere) || !slices.Equal(downs, downsWere) {
			t.Fatalf("Make changed what was handed in: %v, %v", routes, downs)
		}
	}
}

// P17.2

func TestEpoch(t *testing.T) {
	for _, epoch := range []uint64{0, 1, 2, 255, 256, 65536, math.MaxInt32, math.MaxUint32, math.MaxUint32 + 1, 1<<53 + 1, math.MaxInt64, math.MaxInt64 + 1, top - 1, top} {
		holds(t, made(t, epoch, routesOf(2), downsOf(2)), epoch, routesOf(2), downsOf(2))
	}
}

func TestRouteAndOwnOfTheOtherKind(t *testing.T) {
	routes, downs := routesOf(3), downsOf(3)
	routes[0].SSRC, downs[0].SSRC = 0, own // which are nought, but for the highest bit
	routes[1].SSRC, downs[1].SSRC = own-1, last
	tab := made(t, 1, routes, downs)
	for i := range 3 {
		if d, ok := tab.Own(routes[i].SSRC); d != (table.Down{}) || ok {
			t.Errorf("downtrack of a route's %d: %v, %v", routes[i].SSRC, d, ok)
		}
		if r, ok := tab.Route(downs[i].SSRC); r != (table.Route{}) || ok {
			t.Errorf("route of a downtrack's %d: %v, %v", downs[i].SSRC, r, ok)
		}
	}
	holds(t, tab, 1, routes, downs)
}

// A route of SSRC 0, and a downtrack that is all noughts but its SSRC, are there all the same.
func TestWhatIsAllNoughtsIsThere(t *testing.T) {
	routes, downs := []table.Route{{}}, []table.Down{{SSRC: own}}
	tab := made(t, 0, routes, downs)
	if r, ok := tab.Route(0); r != (table.Route{}) || !ok {
		t.Errorf("route of 0: %v, %v", r, ok)
	}
	if ssrc, ok := tab.Source(0, 0); ssrc != 0 || !ok {
		t.Errorf("source of 0, 0: %d, %v", ssrc, ok)
	}
	if ssrc, ok := tab.Source(0, 1); ssrc != 0 || ok {
		t.Errorf("source of 0, 1: %d, %v", ssrc, ok)
	}
	holds(t, tab, 0, routes, downs)
}

func TestTracksThatHaveRoutesOrDownsAlone(t *testing.T) {
	routes := []table.Route{{SSRC: 1, Track: 5, Layer: 0}, {SSRC: 2, Track: 5, Layer: 2}, {SSRC: 3, Track: 7, Layer: 1}}
	downs := append(downsTo(6, 2, 1), downsTo(7, 3)...)
	downs[2].SSRC, downs[2].Ref = own, api.Ref{}
	tab := made(t, 1, routes, downs)
	tells(t, tab, 5)
	tells(t, tab, 6, downs[1], downs[0])
	tells(t, tab, 7, downs[2])
	tells(t, tab, 8)
	want := map[[2]int]uint32{{5, 0}: 1, {5, 2}: 2, {7, 1}: 3}
	for track := -1; track <= 9; track++ {
		for layer := -1; layer <= 9; layer++ {
			is, there := want[[2]int{track, layer}]
			if got, ok := tab.Source(track, layer); got != is || ok != there {
				t.Errorf("source of %d, %d: %d, %v", track, layer, got, ok)
			}
		}
	}
	holds(t, tab, 1, routes, downs)
}

func TestDownsByRisingWho(t *testing.T) {
	for _, whos := range [][]int{
		{1}, {-1}, {0}, {1, 2}, {2, 1}, {9, 4}, {0, -1}, {-1, -2}, {2, 10, 1},
		{math.MaxInt, math.MinInt}, {math.MinInt, math.MaxInt}, {math.MaxInt, 0, math.MinInt},
		{math.MaxInt, -1, 1, -2}, {math.MinInt, 1, 2}, {0, math.MinInt, math.MinInt + 1}, {math.MaxInt - 1, math.MaxInt, -5},
		{1 << 32, 1, 0, 1<<32 + 1, -1 << 32}, {256, 1, 255, 0}, {65536, 3, 65535, 2}, edges,
	} {
		downs := downsTo(5, whos...)
		slices.Reverse(downs[:len(downs)/2]) // SSRCs and Refs are no order
		want := sorted(downs, 5)
		for n := range len(downs) {
			tab := made(t, 1, nil, append(downs[n:len(downs):len(downs)], downs[:n]...))
			tells(t, tab, 5, want...)
			tells(t, tab, 4)
			tells(t, tab, 6)
		}
	}
}

// Neither SSRC, nor Ref, nor any other number but Who is the order.
func TestDownsByWhoAlone(t *testing.T) {
	for _, order := range orders(5) {
		downs := make([]table.Down, 5)
		for i, n := range order {
			downs[i] = down(n)
			downs[i].Track, downs[i].Who = 5, 4-i
		}
		tab := made(t, 1, nil, downs)
		slices.Reverse(downs)
		tells(t, tab, 5, downs...)
	}
}

func TestManyDowns(t *testing.T) {
	chance := rand.New(rand.NewPCG(17, 2))
	const many = 3000
	downs := downsOf(many)
	for i := range downs {
		downs[i].Track, downs[i].Who = i%7, int(chance.Uint64())
		if i%3 == 0 {
			downs[i].Who = i - many/2
		}
	}
	chance.Shuffle(many, func(i, j int) { downs[i], downs[j] = downs[j], downs[i] })
	tab := made(t, 1, nil, downs)
	for track := -1; track <= 8; track++ {
		tells(t, tab, track, sorted(downs, track)...)
	}
	if tab.Len() != many {
		t.Errorf("%d downtracks, not %d", tab.Len(), many)
	}
}

func TestWhatDownsTellsIsNewMemory(t *testing.T) {
	downs := append(downsTo(5, 3, 1, 2, 9), down(10), down(11))
	for i := range 2 {
		downs[4+i].Track, downs[4+i].Who = 6, i
	}
	want := sorted(downs, 5)
	tab := made(t, 1, routesOf(2), downs)
	first, other := tab.Downs(5), tab.Downs(5)
	for i := range first {
		first[i] = table.Down{SSRC: uint32(i), Who: -i}
	}
	_ = append(first[:1], down(30), down(31))
	if !slices.Equal(other, want) {
		t.Fatalf("what was told before: %v, not %v", other, want)
	}
	holds(t, tab, 1, routesOf(2), downs)
	slices.Reverse(other)
	again := append(tab.Downs(5), down(40)) // what goes behind it is nowhere else
	_ = append(tab.Downs(5), down(41))
	if !slices.Equal(again[:4], want) || again[4] != down(40) {
		t.Errorf("what was told before: %v", again)
	}
	slices.Reverse(other)
	if !slices.Equal(other, want) {
		t.Errorf("what was told before: %v, not %v", other, want)
	}
	holds(t, tab, 1, routesOf(2), downs)
}

func TestLen(t *testing.T) {
	for many := range 70 {
		downs := downsOf(many)
		for _, l := range [][]table.Down{downs, downsTo(5, rangeOf(many)...)} { // each of its own track, all of one
			for _, routes := range [][]table.Route{nil, routesOf(3)} { // routes are not counted
				if got := made(t, 1, routes, l).Len(); got != many {
					t.Errorf("%d downtracks, not %d", got, many)
				}
			}
		}
		for i := range downs {
			downs[i].Muted = true
		}
		if got := made(t, 1, nil, downs).Len(); got != many { // muted ones are
			t.Errorf("%d muted downtracks, not %d", got, many)
		}
	}
}

// rangeOf are the numbers from 0 on.
func rangeOf(many int) []int {
	var l []int
	for n := range many {
		l = append(l, n)
	}
	return l
}

func TestNil(t *testing.T) {
	var tab *table.Table
	holds(t, tab, 0, nil, nil)
	for _, ssrc := range []uint32{0, 1, 5, own - 1, own, own + 1, last} {
		if r, ok := tab.Route(ssrc); r != (table.Route{}) || ok {
			t.Errorf("route of %d: %v, %v", ssrc, r, ok)
		}
		if d, ok := tab.Own(ssrc); d != (table.Down{}) || ok {
			t.Errorf("downtrack of %d: %v, %v", ssrc, d, ok)
		}
	}
	for _, a := range edges {
		tells(t, tab, a)
		for _, b := range edges {
			if ssrc, ok := tab.Source(a, b); ssrc != 0 || ok {
				t.Errorf("source of %d, %d: %d, %v", a, b, ssrc, ok)
			}
		}
	}
}

// One that Make did not make ends all calls as well.
func TestOneThatIsNotMade(t *testing.T) {
	var tab table.Table
	for range 2 {
		tab.Epoch()
		tab.Route(5)
		tab.Own(own)
		tab.Downs(5)
		tab.Source(5, 0)
		tab.Len()
	}
}

// What one table has is there in none else, be that made of the same, of other, or of wrong things.
func TestTwoTablesAreApart(t *testing.T) {
	routes, downs := routesOf(4), downsOf(4)
	a := made(t, 1, routes, downs)
	b := made(t, 2, nil, nil)
	c := made(t, 3, routes[:2], downs[2:])
	others, ownDowns := routesOf(4), downsOf(4) // of the same SSRCs, and else other ones
	for i := range 4 {
		others[i].Track, others[i].Shard = 5, 3
		ownDowns[i].Track, ownDowns[i].Who, ownDowns[i].Ref = 5, 4-i, api.Ref{Slot: i}
	}
	d := made(t, 1, others, ownDowns)
	refused(t, append(others, route(1)), ownDowns)
	refused(t, others, append(ownDowns, down(1)))
	for range 2 {
		holds(t, a, 1, routes, downs)
		holds(t, b, 2, nil, nil)
		holds(t, c, 3, routes[:2], downs[2:])
		holds(t, d, 1, others, ownDowns)
	}
	e := made(t, 1, routes, downs) // what was in another one may be in this one, too
	holds(t, e, 1, routes, downs)
	holds(t, a, 1, routes, downs)
}

// P17.3

// In whatever order they are told, all calls answer alike.
func TestAllOrdersOfFive(t *testing.T) {
	routes, downs := routesOf(5), downsOf(5)
	for i := range 5 { // tracks of three layers and of two, three people and two
		routes[i].Track, routes[i].Layer = i/3, i%3
		downs[i].Track, downs[i].Who = i/3, 9-i
	}
	all := orders(5)
	for i, order := range all {
		for j := range 12 {
			other := all[(i*7+j*10)%len(all)]
			tab := made(t, 4, inOrder(routes, order), inOrder(downs, other))
			holds(t, tab, 4, routes, downs)
		}
	}
}

// In whatever order they are told, the error is the same.
func TestAllOrdersOfWhatMayNotBe(t *testing.T) {
	for _, c := range twoRoutes {
		routes := append(routesOf(4), c.share(route(0), route(4)))
		for _, order := range orders(5) {
			_, err := table.Make(4, inOrder(routes, order), downsOf(3))
			if (err == api.OK) != c.may || err != api.OK && err != api.ErrArg {
				t.Fatalf("%s, in the order %v: error %d", c.name, order, err)
			}
		}
	}
	for _, c := range twoDowns {
		downs := append(downsOf(4), c.share(down(0), down(4)))
		for _, order := range orders(5) {
			_, err := table.Make(4, routesOf(3), inOrder(downs, order))
			if (err == api.OK) != c.may || err != api.OK && err != api.ErrArg {
				t.Fatalf("%s, in the order %v: error %d", c.name, order, err)
			}
		}
	}
}

// Lists by chance, of few numbers, so that many share one: in each order the table is what the chapter's words tell.
func TestListsByChance(t *testing.T) {
	chance := rand.New(rand.NewPCG(17, 3))
	count := [2]int{}
	for i := range 12000 {
		routes, downs := make([]table.Route, chance.IntN(6)), make([]table.Down, chance.IntN(6))
		many := 2 + i%40 // so many numbers there are of each kind
		for i := range routes {
			routes[i] = table.Route{SSRC: near(chance, own-uint32(many), many), Track: chance.IntN(many), From: chance.IntN(3), Layer: chance.IntN(3), Shard: chance.IntN(4)}
		}
		for i := range downs {
			downs[i] = table.Down{
				SSRC: near(chance, own, many), Ref: api.Ref{Slot: chance.IntN(many), Turn: uint32(chance.IntN(3))},
				Who: chance.IntN(many) - many/2, Track: chance.IntN(4), Shard: chance.IntN(4), From: chance.IntN(3), Layer: chance.IntN(3), Tid: chance.IntN(4), Muted: chance.IntN(2) == 0,
			}
		}
		may := mayBe(routes, downs)
		for range 3 {
			makes(t, may, routes, downs)
			chance.Shuffle(len(routes), func(i, j int) { routes[i], routes[j] = routes[j], routes[i] })
			chance.Shuffle(len(downs), func(i, j int) { downs[i], downs[j] = downs[j], downs[i] })
		}
		if may {
			count[1]++
		} else {
			count[0]++
		}
	}
	if count[0] < 2000 || count[1] < 2000 {
		t.Errorf("%d may not be, and %d may: too few", count[0], count[1])
	}
}

// near is one of so many SSRCs from a lowest one on, and once in a while just outside.
func near(chance *rand.Rand, lowest uint32, many int) uint32 {
	if chance.IntN(60) == 0 {
		return lowest + uint32(many)
	}
	if chance.IntN(60) == 0 {
		return lowest - 1
	}
	return lowest + uint32(chance.IntN(many))
}

func ExampleTable() {
	routes := []table.Route{{SSRC: 5, Track: 1}}
	downs := []table.Down{
		{SSRC: api.Own, Ref: api.Ref{Slot: 0, Turn: 1}, Who: 9, Track: 1},
		{SSRC: api.Own + 1, Ref: api.Ref{Slot: 1, Turn: 1}, Who: 4, Track: 1},
	}
	t, err := table.Make(1, routes, downs)
	fmt.Println(t.Len(), err)
	for _, d := range t.Downs(1) {
		fmt.Println(d.Who, d.SSRC)
	}
	// Output:
	// 2 0
	// 4 2147483649
	// 9 2147483648
}
