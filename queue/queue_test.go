package queue_test

import (
	"fmt"
	"math"
	"slices"
	"testing"

	"louver/queue"
)

// rooms are some that may be.
var rooms = []int{1, 2, 3, 7, 64, 4095, 4096}

// of is a queue of a room that may be.
func of[T any](t *testing.T, room int) *queue.Queue[T] {
	t.Helper()
	q := queue.New[T](room)
	if q == nil {
		t.Fatalf("room %d: none", room)
	}
	return q
}

// push puts something that there is, or is not, room for.
func push[T comparable](t *testing.T, q *queue.Queue[T], x T, want bool) {
	t.Helper()
	if got := q.Push(x); got != want {
		t.Fatalf("push of %v: %v, not %v", x, got, want)
	}
}

// pop takes the first one, and looks at it ahead of that.
func pop[T comparable](t *testing.T, q *queue.Queue[T], want T) {
	t.Helper()
	for range 2 { // once looked at, it is still there
		if x, ok := q.Peek(); !ok || x != want {
			t.Fatalf("peek: %v %v, not %v", x, ok, want)
		}
	}
	if x, ok := q.Pop(); !ok || x != want {
		t.Fatalf("pop: %v %v, not %v", x, ok, want)
	}
}

// none tells whether there is nothing to take, or to look at.
func none[T comparable](t *testing.T, q *queue.Queue[T]) {
	t.Helper()
	var nought T
	if x, ok := q.Pop(); ok || x != nought {
		t.Errorf("pop of none: %v %v", x, ok)
	}
	if x, ok := q.Peek(); ok || x != nought {
		t.Errorf("peek of none: %v %v", x, ok)
	}
}

// stands tells whether a queue has just those things, and so much room.
func stands[T comparable](t *testing.T, q *queue.Queue[T], room int, want ...T) {
	t.Helper()
	if q.Len() != len(want) || q.Room() != room {
		t.Fatalf("%d, and room for %d, not %d, %d", q.Len(), q.Room(), len(want), room)
	}
	if got := q.All(); !slices.Equal(got, want) {
		t.Fatalf("all: %v, not %v", got, want)
	}
}

// P3.1

func TestNewOfARoomThatMayBe(t *testing.T) {
	for _, room := range rooms {
		q := of[int](t, room)
		stands(t, q, room)
		none(t, q)
	}
}

func TestNewOfARoomThatMayNotBe(t *testing.T) {
	for _, room := range []int{0, -1, -2, -4096, math.MinInt32, math.MinInt, 4097, 4098, 65536, math.MaxInt32, math.MaxInt} {
		if queue.New[int](room) != nil || queue.New[string](room) != nil {
			t.Errorf("room %d: there is one", room)
		}
	}
}

func TestPushTillFull(t *testing.T) {
	for _, room := range rooms {
		q := of[int](t, room)
		for i := range room {
			push(t, q, i, true)
		}
		for range 3 {
			push(t, q, -1, false)
		}
		for i := range room {
			pop(t, q, i) // what there was no room for is nowhere
		}
		none(t, q)
	}
}

func TestPushOnceThereIsRoomAgain(t *testing.T) {
	q := of[int](t, 2)
	push(t, q, 1, true)
	push(t, q, 2, true)
	push(t, q, 3, false)
	pop(t, q, 1)
	push(t, q, 4, true)
	push(t, q, 5, false)
	pop(t, q, 2)
	pop(t, q, 4)
	none(t, q)
	push(t, q, 6, true)
	pop(t, q, 6)
	none(t, q)
}

func TestPopOfNone(t *testing.T) {
	q := of[string](t, 1)
	for _, s := range []string{"a", "", "b"} {
		none(t, q)
		none(t, q)
		push(t, q, s, true)
		push(t, q, "c", false)
		pop(t, q, s)
	}
	none(t, q)
	stands(t, q, 1)
}

func TestPeekTakesNothing(t *testing.T) {
	q := of[int](t, 3)
	push(t, q, 1, true)
	push(t, q, 2, true)
	for range 5 {
		if x, ok := q.Peek(); x != 1 || !ok {
			t.Fatalf("peek: %d %v", x, ok)
		}
		stands(t, q, 1, 1, 2)
	}
}

// A zero thing is one like any other.
func TestThingsOfEachKind(t *testing.T) {
	type pair struct{ a, b int }
	p := of[pair](t, 2)
	push(t, p, pair{}, true)
	push(t, p, pair{1, 2}, true)
	stands(t, p, 0, pair{}, pair{1, 2})
	pop(t, p, pair{})
	pop(t, p, pair{1, 2})
	none(t, p)

	b := of[[]byte](t, 2)
	if !b.Push([]byte{1, 2}) || !b.Push(nil) || b.Push([]byte{3}) {
		t.Fatal("push of bytes")
	}
	if x, ok := b.Pop(); !ok || !slices.Equal(x, []byte{1, 2}) {
		t.Errorf("pop of bytes: %v %v", x, ok)
	}
	if x, ok := b.Pop(); !ok || x != nil {
		t.Errorf("pop of no bytes: %v %v", x, ok)
	}

	n := 5
	r := of[*int](t, 1)
	push(t, r, &n, true)
	pop(t, r, &n)
	none(t, r)

	e := of[any](t, 2)
	push[any](t, e, 7, true)
	push[any](t, e, "x", true)
	pop[any](t, e, 7)
	pop[any](t, e, "x")
	none(t, e)
}

func TestQueuesAreApart(t *testing.T) {
	a, b := of[int](t, 2), of[int](t, 2)
	push(t, a, 1, true)
	push(t, b, 2, true)
	push(t, a, 3, true)
	stands(t, a, 0, 1, 3)
	stands(t, b, 1, 2)
	pop(t, a, 1)
	stands(t, b, 1, 2)
}

// P3.2

func TestLenRoomAndAll(t *testing.T) {
	q := of[int](t, 3)
	stands(t, q, 3)
	push(t, q, 1, true)
	stands(t, q, 2, 1)
	push(t, q, 2, true)
	stands(t, q, 1, 1, 2)
	push(t, q, 3, true)
	stands(t, q, 0, 1, 2, 3)
	push(t, q, 4, false)
	stands(t, q, 0, 1, 2, 3)
	pop(t, q, 1)
	stands(t, q, 1, 2, 3)
	push(t, q, 5, true) // where 1 was: it went round
	stands(t, q, 0, 2, 3, 5)
	pop(t, q, 2)
	pop(t, q, 3)
	stands(t, q, 2, 5)
	pop(t, q, 5)
	stands(t, q, 3)
}

func TestAllIsNewMemory(t *testing.T) {
	q := of[int](t, 3)
	for _, x := range []int{9, 1, 2} {
		push(t, q, x, true)
	}
	pop(t, q, 9)
	push(t, q, 3, true)
	all, other := q.All(), q.All()
	for i := range all {
		all[i] = -1
	}
	if grown := append(all, -2, -3); len(grown) != 5 {
		t.Fatal("append")
	}
	if !slices.Equal(other, []int{1, 2, 3}) {
		t.Errorf("an answer that was there: %v", other)
	}
	stands(t, q, 0, 1, 2, 3)
	pop(t, q, 1)
	push(t, q, 4, true)
	if !slices.Equal(other, []int{1, 2, 3}) {
		t.Errorf("an answer, once the queue goes on: %v", other)
	}
}

func TestAllOfFewInMuchRoom(t *testing.T) {
	q := of[int](t, 4096)
	push(t, q, 1, true)
	push(t, q, 2, true)
	all := append(q.All(), 7, 8)
	if !slices.Equal(all, []int{1, 2, 7, 8}) {
		t.Errorf("all, grown: %v", all)
	}
	push(t, q, 3, true)
	stands(t, q, 4093, 1, 2, 3)
}

func TestNil(t *testing.T) {
	var q *queue.Queue[int]
	for range 2 {
		push(t, q, 1, false)
		none(t, q)
		stands(t, q, 0)
	}
	var s *queue.Queue[string]
	push(t, s, "a", false)
	none(t, s)
	stands(t, s, 0)
}

// One that New did not make has no room.
func TestOneThatIsNotMade(t *testing.T) {
	var q queue.Queue[int]
	push(t, &q, 1, false)
	none(t, &q)
	stands(t, &q, 0)
}

// P3.3

// row is a queue written plainly: a list that is cut ahead, and grows behind.
type row struct {
	list []int
	room int
}

func (r *row) push(x int) bool {
	if len(r.list) == r.room {
		return false
	}
	r.list = append(r.list, x)
	return true
}

func (r *row) pop() (int, bool) {
	if len(r.list) == 0 {
		return 0, false
	}
	x := r.list[0]
	r.list = r.list[1:]
	return x, true
}

// goes lets a queue and a row go on alike: pushes and pops, as the bits of way tell.
func goes(t *testing.T, q *queue.Queue[int], r *row, way uint64, steps int) {
	t.Helper()
	for i := range steps {
		if way>>(i%64)&1 == 1 {
			push(t, q, i, r.push(i))
		} else if x, ok := r.pop(); ok {
			pop(t, q, x)
		} else {
			none(t, q)
		}
		stands(t, q, r.room-len(r.list), r.list...)
	}
}

func TestFirstInFirstOut(t *testing.T) {
	for room := 1; room <= 5; room++ {
		for way := range uint64(1 << 12) { // each way of 12 steps
			goes(t, of[int](t, room), &row{room: room}, way, 12)
		}
		for _, way := range []uint64{0x5555555555555555, 0x6db6db6db6db6db6, 0xff00ff00fff000ff, 0xf0f1f2f3f4f5f6f7, math.MaxUint64} {
			goes(t, of[int](t, room), &row{room: room}, way, 1000)
		}
	}
}

func TestEachOnceInOrder(t *testing.T) {
	for _, room := range rooms {
		q := of[int](t, room)
		next, want := 0, 0
		for round := range 9 { // a little more each time than was there: it goes round at each place
			for q.Push(next) {
				next++
			}
			for range room/2 + round%2 {
				pop(t, q, want)
				want++
			}
		}
		for want < next {
			pop(t, q, want)
			want++
		}
		none(t, q)
	}
}

func ExampleQueue() {
	q := queue.New[int](2)
	fmt.Println(q.Push(1), q.Push(2), q.Push(3))
	fmt.Println(q.Pop())
	// Output:
	// true true false
	// 1 true
}
