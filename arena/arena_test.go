package arena_test

import (
	"fmt"
	"math"
	"math/rand/v2"
	"slices"
	"strconv"
	"testing"

	"louver/api"
	"louver/arena"
)

// rooms are some that may be.
var rooms = []int{1, 2, 3, 7, 63, 64}

// of is an arena of a room that may be.
func of[T any](t *testing.T, room int) *arena.Arena[T] {
	t.Helper()
	a := arena.New[T](room)
	if a == nil {
		t.Fatalf("room %d: none", room)
	}
	return a
}

// takes lets something stand in a slot, by a turn, and looks at it there.
func takes[T comparable](t *testing.T, a *arena.Arena[T], x T, slot int, turn uint32) api.Ref {
	t.Helper()
	want := api.Ref{Slot: slot, Turn: turn}
	if r, err := a.Take(x); r != want || err != api.OK {
		t.Fatalf("take: %v, error %d, not %v", r, err, want)
	}
	has(t, a, want, x)
	return want
}

// full tells whether nothing is free.
func full[T comparable](t *testing.T, a *arena.Arena[T], x T) {
	t.Helper()
	for range 2 {
		if r, err := a.Take(x); r != (api.Ref{}) || err != api.ErrFull {
			t.Fatalf("take of a full arena: %v, error %d", r, err)
		}
	}
}

// frees lets a slot be free that is used by that turn.
func frees[T comparable](t *testing.T, a *arena.Arena[T], r api.Ref) {
	t.Helper()
	if err := a.Free(r); err != api.OK {
		t.Fatalf("free of %v: error %d", r, err)
	}
	stale(t, a, r)
}

// has looks twice: who looks changes nothing.
func has[T comparable](t *testing.T, a *arena.Arena[T], r api.Ref, want T) {
	t.Helper()
	for range 2 {
		if x, err := a.Get(r); x != want || err != api.OK {
			t.Fatalf("get of %v: %v, error %d, not %v", r, x, err, want)
		}
	}
}

// stale tells whether no slot is used by any of those turns: nothing is told of them, and nothing is free by them.
func stale[T comparable](t *testing.T, a *arena.Arena[T], refs ...api.Ref) {
	t.Helper()
	for _, r := range refs {
		fails(t, a, r, api.ErrStale)
	}
}

// fails tells whether Get and Free of a Ref tell an error, and nothing else, and change nothing.
func fails[T comparable](t *testing.T, a *arena.Arena[T], r api.Ref, want api.Errno) {
	t.Helper()
	var none T
	all := a.Refs()
	for range 2 {
		if x, err := a.Get(r); x != none || err != want {
			t.Fatalf("get of %v: %v, error %d, not error %d", r, x, err, want)
		}
		if err := a.Free(r); err != want {
			t.Fatalf("free of %v: error %d, not %d", r, err, want)
		}
	}
	if now := a.Refs(); !slices.Equal(now, all) {
		t.Fatalf("refs: %v; behind a free of %v, which is none: %v", all, r, now)
	}
}

// stands tells whether just those are used.
func stands[T any](t *testing.T, a *arena.Arena[T], want ...api.Ref) {
	t.Helper()
	for range 2 {
		if n := a.Live(); n != len(want) {
			t.Fatalf("%d are used, not %d", n, len(want))
		}
		if got := a.Refs(); !slices.Equal(got, want) {
			t.Fatalf("refs: %v, not %v", got, want)
		}
	}
}

// fill takes all slots of an arena that has none used yet: i stands in slot i.
func fill(t *testing.T, a *arena.Arena[int], room int) []api.Ref {
	t.Helper()
	var refs []api.Ref
	for i := range room {
		refs = append(refs, takes(t, a, i, i, 1))
	}
	full(t, a, -1)
	return refs
}

// strange are Refs that no arena of that room tells, if none of its slots was taken more than a few times.
func strange(room int) []api.Ref {
	var refs []api.Ref
	for _, slot := range []int{-1, -2, -room, -64, -65, math.MinInt32, math.MinInt, room, room + 1, 2 * room, 64, 65, 65536, math.MaxInt32, math.MaxInt} {
		if slot >= 0 && slot < room {
			continue
		}
		for _, turn := range []uint32{0, 1, 2, 3, math.MaxInt32, math.MaxUint32} {
			refs = append(refs, api.Ref{Slot: slot, Turn: turn})
		}
	}
	for slot := range room {
		for _, turn := range []uint32{0, math.MaxInt32, math.MaxInt32 + 1, math.MaxUint32 - 1, math.MaxUint32} {
			refs = append(refs, api.Ref{Slot: slot, Turn: turn})
		}
	}
	return refs
}

// P15.1

func TestNewOfARoomThatMayBe(t *testing.T) {
	for room := 1; room <= api.MaxSlots; room++ {
		a := of[int](t, room)
		stands(t, a)
		for slot := range room { // all are free
			stale(t, a, api.Ref{Slot: slot}, api.Ref{Slot: slot, Turn: 1})
		}
		stands(t, a, fill(t, a, room)...)
	}
}

func TestNewOfARoomThatMayNotBe(t *testing.T) {
	for _, room := range []int{0, -1, -2, -63, -64, -65, math.MinInt32, math.MinInt, 65, 66, 128, 4096, 65536, math.MaxInt32, math.MaxInt} {
		if arena.New[int](room) != nil || arena.New[string](room) != nil {
			t.Errorf("room %d: there is one", room)
		}
	}
}

func TestTakeTillFull(t *testing.T) {
	for _, room := range rooms {
		a := of[int](t, room)
		var refs []api.Ref
		for i := range room {
			stands(t, a, refs...)
			refs = append(refs, takes(t, a, 100+i, i, 1))
		}
		for range 3 {
			full(t, a, -1)
			stands(t, a, refs...)
		}
		for i, r := range refs { // what there was no room for is nowhere
			has(t, a, r, 100+i)
		}
		frees(t, a, refs[room/2])
		refs[room/2] = takes(t, a, 7, room/2, 2) // to be told that nothing is free takes no turn
		full(t, a, -1)
		stands(t, a, refs...)
	}
}

// In whatever order slots are freed, the lowest of them is the next one.
func TestTakeOfTheLowestFreeSlot(t *testing.T) {
	for _, order := range orders(5) {
		for n := range order {
			a := of[int](t, 5)
			refs := fill(t, a, 5)
			free := slices.Clone(order[:n+1])
			for _, slot := range free {
				frees(t, a, refs[slot])
			}
			slices.Sort(free)
			for _, slot := range free {
				refs[slot] = takes(t, a, 10+slot, slot, 2)
			}
			full(t, a, -1)
			stands(t, a, refs...)
		}
	}
}

// orders are all orders of the numbers below n.
func orders(n int) [][]int {
	if n == 0 {
		return [][]int{nil}
	}
	var all [][]int
	for _, order := range orders(n - 1) {
		for at := range n {
			all = append(all, slices.Insert(slices.Clone(order), at, n-1))
		}
	}
	return all
}

// A slot that was never taken is no later one than those that were freed, nor an earlier one: the lowest is the next.
func TestTakeOfAFreedSlotAndOnesNeverTaken(t *testing.T) {
	a := of[int](t, 4)
	zero := takes(t, a, 0, 0, 1)
	one := takes(t, a, 1, 1, 1)
	frees(t, a, zero)
	zero = takes(t, a, 2, 0, 2)
	two := takes(t, a, 3, 2, 1)
	frees(t, a, two)
	frees(t, a, one)
	one = takes(t, a, 4, 1, 2)
	two = takes(t, a, 5, 2, 2)
	three := takes(t, a, 6, 3, 1)
	full(t, a, 7)
	stands(t, a, zero, one, two, three)
}

func TestTheHighestSlots(t *testing.T) {
	a := of[int](t, 64)
	refs := fill(t, a, 64)
	frees(t, a, refs[63])
	frees(t, a, refs[62])
	takes(t, a, 1, 62, 2)
	frees(t, a, refs[0])
	takes(t, a, 2, 0, 2)
	takes(t, a, 3, 63, 2)
	full(t, a, 4)
}

func TestTurnsOfManyTakes(t *testing.T) {
	a := of[int](t, 1)
	for turn := uint32(1); turn <= 100000; turn++ {
		r := takes(t, a, int(turn), 0, turn)
		stale(t, a, api.Ref{Turn: turn - 1}, api.Ref{Turn: turn + 1})
		frees(t, a, r)
	}
}

// 255 and 65535 are turns like any other: none goes round there.
func TestTurnsOfManyTakesAreNeverToldAgain(t *testing.T) {
	a := of[int](t, 2)
	zero := takes(t, a, 5, 0, 1)
	for turn := uint32(1); turn <= 1<<17; turn++ {
		if r, err := a.Take(7); r != (api.Ref{Slot: 1, Turn: turn}) || err != api.OK {
			t.Fatalf("take: %v, error %d, not turn %d", r, err, turn)
		}
		if err := a.Free(api.Ref{Slot: 1, Turn: turn}); err != api.OK {
			t.Fatalf("free of turn %d: error %d", turn, err)
		}
	}
	takes(t, a, 8, 1, 1<<17+1)
	for turn := range uint32(1<<17 + 1) {
		if x, err := a.Get(api.Ref{Slot: 1, Turn: turn}); x != 0 || err != api.ErrStale {
			t.Fatalf("get of turn %d: %d, error %d", turn, x, err)
		}
	}
	has(t, a, zero, 5)
}

// One slot is taken once, another twice, and so on: no slot's turn plays a part for another one's.
func TestTurnsOfEachSlotByItself(t *testing.T) {
	for _, room := range rooms {
		a := of[int](t, room)
		refs := fill(t, a, room)
		for slot := range room {
			for i := range slot * 3 {
				frees(t, a, refs[slot])
				refs[slot] = takes(t, a, 1000*slot+i, slot, uint32(i)+2)
			}
		}
		stands(t, a, refs...)
		for slot, r := range refs {
			if r.Turn != uint32(slot*3+1) {
				t.Errorf("slot %d: turn %d", slot, r.Turn)
			}
			frees(t, a, r)
		}
		for slot := range room { // and from there on once all were free
			takes(t, a, slot, slot, uint32(slot*3+2))
		}
	}
}

func TestTheLastSlotTakenManyTimes(t *testing.T) {
	a := of[int](t, 64)
	refs := fill(t, a, 64)
	for turn := uint32(2); turn < 1000; turn++ {
		frees(t, a, refs[63])
		refs[63] = takes(t, a, int(turn), 63, turn)
		full(t, a, -1)
	}
	frees(t, a, refs[0])
	takes(t, a, 1, 0, 2) // its own turn, not that of the slot that was taken last
	stands(t, a, append([]api.Ref{{Slot: 0, Turn: 2}}, refs[1:]...)...)
}

// P15.2

func TestGetAndFreeOfARefThatIsNone(t *testing.T) {
	for _, room := range rooms {
		a := of[int](t, room)
		stale(t, a, strange(room)...)
		refs := fill(t, a, room)
		stale(t, a, strange(room)...)
		for i, r := range refs {
			stale(t, a, api.Ref{Slot: i, Turn: r.Turn + 1}) // it is still to come
			has(t, a, r, i)
		}
		for _, r := range refs {
			frees(t, a, r)
		}
		stale(t, a, strange(room)...)
		stale(t, a, refs...)
		stands(t, a)
	}
}

func TestGetAndFreeOfAFreeSlot(t *testing.T) {
	a := of[int](t, 3)
	for slot := range 3 { // none was ever taken
		for turn := range uint32(5) {
			stale(t, a, api.Ref{Slot: slot, Turn: turn})
		}
	}
	refs := fill(t, a, 3)
	frees(t, a, refs[1])
	for turn := range uint32(5) {
		stale(t, a, api.Ref{Slot: 1, Turn: turn})
	}
	has(t, a, refs[0], 0)
	has(t, a, refs[2], 2)
	stands(t, a, refs[0], refs[2])
}

func TestGetAndFreeOfATurnThatIsAnotherOne(t *testing.T) {
	a := of[string](t, 2)
	for turn := uint32(1); turn < 50; turn++ {
		x := strconv.Itoa(int(turn))
		r := takes(t, a, x, 0, turn)
		for other := range uint32(60) {
			if other != turn { // an earlier one, 0, or one that is still to come
				stale(t, a, api.Ref{Turn: other})
			}
		}
		has(t, a, r, x)
		stands(t, a, r)
		frees(t, a, r)
		stands(t, a)
	}
}

// A Ref's slot and turn both play a part: that of another slot isn't used, though its turn is told there.
func TestGetAndFreeOfAnotherSlotsTurn(t *testing.T) {
	a := of[int](t, 3)
	refs := fill(t, a, 3)
	frees(t, a, refs[1])
	refs[1] = takes(t, a, 10, 1, 2)
	frees(t, a, refs[1])
	refs[1] = takes(t, a, 20, 1, 3)
	stale(t, a, api.Ref{Slot: 0, Turn: 3}, api.Ref{Slot: 2, Turn: 3}, api.Ref{Slot: 1, Turn: 1})
	has(t, a, refs[0], 0)
	has(t, a, refs[1], 20)
	has(t, a, refs[2], 2)
}

// A slot number that is so much higher that it goes round is still none.
func TestGetAndFreeOfSlotsThatGoRound(t *testing.T) {
	a := of[int](t, 64)
	refs := fill(t, a, 64)
	for _, way := range []int{64, 256, 1 << 16, 1 << 32, 1 << 62} {
		for slot := range 64 {
			stale(t, a, api.Ref{Slot: slot + way, Turn: 1}, api.Ref{Slot: slot - way, Turn: 1})
		}
	}
	stands(t, a, refs...)
}

func TestFreeTwice(t *testing.T) {
	for _, room := range rooms {
		a := of[int](t, room)
		refs := fill(t, a, room)
		last := room - 1
		if err := a.Free(refs[last]); err != api.OK {
			t.Fatalf("free: error %d", err)
		}
		for range 3 {
			if err := a.Free(refs[last]); err != api.ErrStale {
				t.Fatalf("free, twice: error %d", err)
			}
		}
		stands(t, a, refs[:last]...)
		next := takes(t, a, 9, last, 2) // to free it twice takes no turn, and frees nothing else
		if err := a.Free(refs[last]); err != api.ErrStale {
			t.Fatalf("free of what is another one's: error %d", err)
		}
		has(t, a, next, 9)
		full(t, a, -1)
	}
}

func TestThingsOfEachKind(t *testing.T) {
	n := of[int](t, 3)
	takes(t, n, 0, 0, 1)
	takes(t, n, math.MinInt, 1, 1)
	takes(t, n, math.MaxInt, 2, 1)
	has(t, n, api.Ref{Slot: 0, Turn: 1}, 0)
	has(t, n, api.Ref{Slot: 1, Turn: 1}, math.MinInt)

	s := of[string](t, 4)
	texts := []string{"", "a", "two words", string([]byte{0, 255, 128, 0})}
	for i, x := range texts {
		takes(t, s, x, i, 1)
	}
	for i, x := range texts {
		has(t, s, api.Ref{Slot: i, Turn: 1}, x)
		frees(t, s, api.Ref{Slot: i, Turn: 1})
	}

	type both struct {
		name string
		ref  api.Ref
		nums [3]int
	}
	b := of[both](t, 2)
	x := both{"a", api.Ref{Slot: 5, Turn: 6}, [3]int{1, 2, 3}}
	r := takes(t, b, x, 0, 1)
	takes(t, b, both{}, 1, 1)
	x.name, x.nums[1] = "b", 9 // a struct is a value: what stands there stays
	has(t, b, r, both{"a", api.Ref{Slot: 5, Turn: 6}, [3]int{1, 2, 3}})
	told, _ := b.Get(r)
	told.name, told.nums[0] = "c", 7
	has(t, b, r, both{"a", api.Ref{Slot: 5, Turn: 6}, [3]int{1, 2, 3}})
	frees(t, b, r)
	takes(t, b, x, 0, 2)
	has(t, b, api.Ref{Slot: 1, Turn: 1}, both{})
}

// What can't be compared, or is but pointed at, stands there as well.
func TestThingsThatArePointedAt(t *testing.T) {
	one, two := 1, 1
	p := of[*int](t, 3)
	takes(t, p, &one, 0, 1)
	takes(t, p, &two, 1, 1)
	takes(t, p, nil, 2, 1)
	has(t, p, api.Ref{Slot: 0, Turn: 1}, &one)
	one = 5
	if x, err := p.Get(api.Ref{Slot: 0, Turn: 1}); *x != 5 || err != api.OK {
		t.Errorf("get: %d, error %d", *x, err)
	}
	frees(t, p, api.Ref{Slot: 0, Turn: 1})

	l := of[[]int](t, 2)
	r, _ := l.Take([]int{1, 2})
	none, _ := l.Take(nil)
	if x, err := l.Get(r); !slices.Equal(x, []int{1, 2}) || err != api.OK {
		t.Errorf("get of a list: %v, error %d", x, err)
	}
	if x, err := l.Get(none); x != nil || err != api.OK {
		t.Errorf("get of no list: %v, error %d", x, err)
	}
	l.Free(r)
	if x, err := l.Get(r); x != nil || err != api.ErrStale {
		t.Errorf("get of what was freed: %v, error %d", x, err)
	}

	f := of[func() int](t, 1)
	r, _ = f.Take(func() int { return 7 })
	if x, err := f.Get(r); err != api.OK || x() != 7 {
		t.Errorf("get of a function: error %d", err)
	}
	f.Free(r)
	if x, err := f.Get(r); x != nil || err != api.ErrStale {
		t.Errorf("get of a function that was freed: error %d", err)
	}

	e := of[any](t, 3)
	takes[any](t, e, 7, 0, 1)
	takes[any](t, e, "x", 1, 1)
	takes[any](t, e, nil, 2, 1)
	frees(t, e, api.Ref{Slot: 1, Turn: 1})
}

// One thing may stand in several slots; each is freed by itself.
func TestTheSameThingSeveralTimes(t *testing.T) {
	a := of[string](t, 3)
	for slot := range 3 {
		takes(t, a, "x", slot, 1)
	}
	frees(t, a, api.Ref{Slot: 1, Turn: 1})
	has(t, a, api.Ref{Slot: 0, Turn: 1}, "x")
	has(t, a, api.Ref{Slot: 2, Turn: 1}, "x")
	takes(t, a, "x", 1, 2)
}

func TestLiveAndRefsAtEachStep(t *testing.T) {
	a := of[int](t, 3)
	stands(t, a)
	zero := takes(t, a, 5, 0, 1)
	stands(t, a, zero)
	one := takes(t, a, 6, 1, 1)
	stands(t, a, zero, one)
	frees(t, a, zero)
	stands(t, a, one)
	zero = takes(t, a, 7, 0, 2) // taken later, told earlier: by its slot
	stands(t, a, zero, one)
	two := takes(t, a, 8, 2, 1)
	stands(t, a, zero, one, two)
	full(t, a, 9)
	stands(t, a, zero, one, two)
	frees(t, a, one)
	stands(t, a, zero, two)
	frees(t, a, two)
	stands(t, a, zero)
	stale(t, a, one, two)
	stands(t, a, zero)
	frees(t, a, zero)
	stands(t, a)
}

func TestRefsAreNewMemory(t *testing.T) {
	a := of[int](t, 3)
	refs := fill(t, a, 3)
	frees(t, a, refs[2])
	told, other := a.Refs(), a.Refs()
	for i := range told {
		told[i] = api.Ref{Slot: 9, Turn: 9}
	}
	if grown := append(told, api.Ref{Slot: 2, Turn: 7}); len(grown) != 3 {
		t.Fatal("append")
	}
	if !slices.Equal(other, refs[:2]) {
		t.Errorf("an answer that was there: %v", other)
	}
	stands(t, a, refs[:2]...)
	has(t, a, refs[0], 0)
	has(t, a, refs[1], 1)
	stale(t, a, api.Ref{Slot: 9, Turn: 9}, api.Ref{Slot: 2, Turn: 7})
	frees(t, a, refs[0])
	takes(t, a, 8, 0, 2)
	takes(t, a, 9, 2, 2)
	if !slices.Equal(other, refs[:2]) {
		t.Errorf("an answer, once the arena goes on: %v", other)
	}
}

func TestArenasAreApart(t *testing.T) {
	a, b := of[int](t, 2), of[int](t, 2)
	first := takes(t, a, 1, 0, 1)
	stale(t, b, first)
	stands(t, b)
	takes(t, a, 2, 1, 1)
	full(t, a, 3)
	takes(t, b, 4, 0, 1) // of the same Ref, in the other one
	has(t, a, first, 1)
	has(t, b, first, 4)
	frees(t, b, first)
	has(t, a, first, 1)
	takes(t, b, 5, 0, 2)
	stale(t, a, api.Ref{Turn: 2})
	stands(t, a, first, api.Ref{Slot: 1, Turn: 1})
	stands(t, b, api.Ref{Turn: 2})
	frees(t, a, first)
	has(t, b, api.Ref{Turn: 2}, 5)
	takes(t, a, 6, 0, 2)
	has(t, b, api.Ref{Turn: 2}, 5)
}

func TestNil(t *testing.T) {
	var n *arena.Arena[int]
	var s *arena.Arena[string]
	for range 2 {
		if r, err := n.Take(5); r != (api.Ref{}) || err != api.ErrArg {
			t.Errorf("take: %v, error %d", r, err)
		}
		if r, err := s.Take("a"); r != (api.Ref{}) || err != api.ErrArg {
			t.Errorf("take: %v, error %d", r, err)
		}
		for _, r := range append(strange(1), api.Ref{Turn: 1}) { // be the Ref one that is or not
			fails(t, n, r, api.ErrArg)
			fails(t, s, r, api.ErrArg)
		}
		stands(t, n)
		stands(t, s)
	}
}

// One that New did not make has no slots.
func TestOneThatIsNotMade(t *testing.T) {
	var a arena.Arena[int]
	full(t, &a, 5)
	stale(t, &a, append(strange(0), api.Ref{}, api.Ref{Turn: 1})...)
	stands(t, &a)
}

// P15.3

// row is an arena written plainly: all that was ever told, in order, of which some is still used.
type row struct {
	room  int
	taken []taken
}

type taken struct {
	ref  api.Ref
	x    int
	used bool
}

// take is a Ref that is told; false: nothing is free.
func (r *row) take(x int) (api.Ref, bool) {
	for slot := range r.room {
		turn, used := uint32(1), false
		for _, k := range r.taken {
			if k.ref.Slot == slot {
				turn, used = turn+1, used || k.used
			}
		}
		if !used {
			ref := api.Ref{Slot: slot, Turn: turn}
			r.taken = append(r.taken, taken{ref, x, true})
			return ref, true
		}
	}
	return api.Ref{}, false
}

// free frees a Ref; false: it isn't used.
func (r *row) free(ref api.Ref) bool {
	for i, k := range r.taken {
		if k.ref == ref && k.used {
			r.taken[i].used = false
			return true
		}
	}
	return false
}

// refs are those that are used, by rising slots.
func (r *row) refs() []api.Ref {
	var refs []api.Ref
	for slot := range r.room {
		for _, k := range r.taken {
			if k.used && k.ref.Slot == slot {
				refs = append(refs, k.ref)
			}
		}
	}
	return refs
}

// pair is an arena and a row that go on alike.
type pair struct {
	a *arena.Arena[int]
	r *row
}

func (p pair) take(t *testing.T, x int) {
	t.Helper()
	ref, ok := p.r.take(x)
	if !ok {
		full(t, p.a, x)
		return
	}
	if got, err := p.a.Take(x); got != ref || err != api.OK {
		t.Fatalf("take: %v, error %d, not %v", got, err, ref)
	}
}

func (p pair) free(t *testing.T, ref api.Ref) {
	t.Helper()
	want := api.OK
	if !p.r.free(ref) {
		want = api.ErrStale
	}
	if err := p.a.Free(ref); err != want {
		t.Fatalf("free of %v: error %d, not %d", ref, err, want)
	}
}

// alike holds them against each other: of each Ref that was ever told, what stands there, or that nothing does.
func (p pair) alike(t *testing.T) {
	t.Helper()
	stands(t, p.a, p.r.refs()...)
	for _, k := range p.r.taken {
		if k.used {
			has(t, p.a, k.ref, k.x)
		} else if x, err := p.a.Get(k.ref); x != 0 || err != api.ErrStale {
			t.Fatalf("get of %v, which was freed: %d, error %d", k.ref, x, err)
		}
	}
}

// Each step takes, or frees what was told as so many, be it used still or not, or frees what was never told.
func TestEachWayOfFewSteps(t *testing.T) {
	const kinds, steps = 6, 6
	ways := 1
	for range steps {
		ways *= kinds
	}
	for room := 1; room <= 4; room++ {
		for way := range ways {
			p := pair{of[int](t, room), &row{room: room}}
			for i := range steps {
				what := way % kinds
				way /= kinds
				if what < 2 { // two of the six kinds, as many frees find nothing
					p.take(t, 100+i)
				} else if told := what - 2; told < len(p.r.taken) {
					p.free(t, p.r.taken[told].ref)
				} else {
					p.free(t, api.Ref{Slot: told, Turn: uint32(i)})
				}
				p.alike(t)
			}
		}
	}
}

func TestManySteps(t *testing.T) {
	chance := rand.New(rand.NewPCG(15, 3))
	for i := range 60 {
		room := 1 + chance.IntN(12)
		often := 1 + chance.IntN(9) // so many of ten steps take
		p := pair{of[int](t, room), &row{room: room}}
		for n := range 200 {
			if chance.IntN(10) < often || len(p.r.taken) == 0 {
				p.take(t, 1+i*1000+n)
			} else if refs := p.r.refs(); chance.IntN(4) > 0 && len(refs) > 0 {
				p.free(t, refs[chance.IntN(len(refs))])
			} else {
				p.free(t, p.r.taken[chance.IntN(len(p.r.taken))].ref)
			}
			p.alike(t)
		}
	}
}

// However takes and frees are mixed, no Ref is told twice, and what was freed is told no more.
func TestNoRefIsToldTwice(t *testing.T) {
	chance := rand.New(rand.NewPCG(15, 4))
	for _, room := range rooms {
		a := of[int](t, room)
		told := map[api.Ref]int{}
		used := map[api.Ref]int{}
		for x := 1; x < 20000; x++ {
			r, err := a.Take(x)
			if (err == api.OK) != (len(used) < room) {
				t.Fatalf("take with %d of %d used: error %d", len(used), room, err)
			}
			if err == api.OK {
				if before, twice := told[r]; twice {
					t.Fatalf("%v was told of %d, and is told of %d", r, before, x)
				}
				told[r], used[r] = x, x
			}
			for _, r := range a.Refs() {
				if chance.IntN(room+1) == 0 {
					frees(t, a, r)
					delete(used, r)
				}
			}
			if a.Live() != len(used) {
				t.Fatalf("%d are used, not %d", a.Live(), len(used))
			}
		}
		for r, x := range told {
			if _, live := used[r]; live {
				has(t, a, r, x)
			} else {
				stale(t, a, r)
			}
		}
	}
}

func ExampleArena() {
	a := arena.New[string](1)
	first, _ := a.Take("a")
	a.Free(first)
	second, _ := a.Take("b")
	fmt.Println(first, second)
	_, err := a.Get(first)
	fmt.Println(err == api.ErrStale)
	// Output:
	// {0 1} {0 2}
	// true
}
