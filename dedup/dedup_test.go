package dedup_test

import (
	"fmt"
	"math"
	"slices"
	"strings"
	"testing"

	"louver/api"
	"louver/dedup"
)

// rooms are some that may be.
var rooms = []int{1, 2, 3, 7, 64, 4095, 4096}

// of is a table of a room that may be.
func of(t *testing.T, room int) *dedup.Table {
	t.Helper()
	d := dedup.New(room)
	if d == nil {
		t.Fatalf("room %d: none", room)
	}
	return d
}

// start sees a request, with just that error.
func start(t *testing.T, d *dedup.Table, id uint64, want api.Errno) {
	t.Helper()
	if got := d.Start(id); got != want {
		t.Fatalf("start of %d: error %d, not %d", id, got, want)
	}
}

// end answers a request, with just that error.
func end(t *testing.T, d *dedup.Table, id uint64, answer string, want api.Errno) {
	t.Helper()
	if got := d.End(id, answer); got != want {
		t.Fatalf("end of %d with %q: error %d, not %d", id, answer, got, want)
	}
}

// find looks twice: who looks changes nothing.
func find(t *testing.T, d *dedup.Table, id uint64, answer string, ended, there bool) {
	t.Helper()
	for range 2 {
		if a, e, is := d.Find(id); a != answer || e != ended || is != there {
			t.Fatalf("find of %d: %q %v %v, not %q %v %v", id, a, e, is, answer, ended, there)
		}
	}
}

// waits tells whether requests are there, and have no answer.
func waits(t *testing.T, d *dedup.Table, ids ...uint64) {
	t.Helper()
	for _, id := range ids {
		find(t, d, id, "", false, true)
	}
}

// has tells whether a request is there, and has that answer.
func has(t *testing.T, d *dedup.Table, id uint64, answer string) {
	t.Helper()
	find(t, d, id, answer, true, true)
}

// gone tells whether requests aren't there.
func gone(t *testing.T, d *dedup.Table, ids ...uint64) {
	t.Helper()
	for _, id := range ids {
		find(t, d, id, "", false, false)
	}
}

// counts tells whether there are so many, of which so many wait.
func counts(t *testing.T, d *dedup.Table, all, waiting int) {
	t.Helper()
	if d.Len() != all || d.Waits() != waiting {
		t.Fatalf("%d there, %d wait, not %d, %d", d.Len(), d.Waits(), all, waiting)
	}
}

// P4.1

func TestNewOfARoomThatMayBe(t *testing.T) {
	for _, room := range rooms {
		d := of(t, room)
		counts(t, d, 0, 0)
		gone(t, d, 0, 1, math.MaxUint64)
	}
}

func TestNewOfARoomThatMayNotBe(t *testing.T) {
	for _, room := range []int{0, -1, -2, -4096, math.MinInt32, math.MinInt, 4097, 4098, 65536, math.MaxInt32, math.MaxInt} {
		if dedup.New(room) != nil {
			t.Errorf("room %d: there is one", room)
		}
	}
}

func TestStartTillFull(t *testing.T) {
	for _, room := range rooms {
		d := of(t, room)
		for i := range room {
			start(t, d, uint64(i), api.OK)
			counts(t, d, i+1, i+1)
		}
		for i := range 3 {
			start(t, d, uint64(room+i), api.ErrFull)
		}
		counts(t, d, room, room)
		for i := range room {
			waits(t, d, uint64(i))
			start(t, d, uint64(i), api.ErrTwice)
		}
		for i := range 3 {
			gone(t, d, uint64(room+i)) // what there was no room for is nowhere
		}
	}
}

func TestStartOfEachNumber(t *testing.T) {
	ids := []uint64{0, 1, 255, 256, math.MaxUint32, math.MaxUint32 + 1, math.MaxInt64, math.MaxInt64 + 1, math.MaxUint64 - 1, math.MaxUint64}
	d := of(t, len(ids))
	for _, id := range ids {
		gone(t, d, id)
		start(t, d, id, api.OK)
		waits(t, d, id)
	}
	for _, id := range ids {
		end(t, d, id, fmt.Sprint(id), api.OK)
	}
	for _, id := range ids {
		has(t, d, id, fmt.Sprint(id))
	}
}

func TestStartTwice(t *testing.T) {
	d := of(t, 3)
	start(t, d, 5, api.OK)
	start(t, d, 5, api.ErrTwice)
	counts(t, d, 1, 1)
	waits(t, d, 5)
	end(t, d, 5, "five", api.OK)
	start(t, d, 5, api.ErrTwice) // it is there, whether it waits or not
	counts(t, d, 1, 0)
	has(t, d, 5, "five")
}

// What is there already needs no room: that is told ahead of no room, and nothing goes for it.
func TestStartTwiceOfAFullTable(t *testing.T) {
	d := of(t, 2)
	start(t, d, 1, api.OK)
	start(t, d, 2, api.OK)
	start(t, d, 1, api.ErrTwice)
	start(t, d, 2, api.ErrTwice)
	counts(t, d, 2, 2)
	end(t, d, 1, "a", api.OK)
	start(t, d, 2, api.ErrTwice)
	start(t, d, 1, api.ErrTwice)
	counts(t, d, 2, 1)
	has(t, d, 1, "a")
	waits(t, d, 2)
}

func TestStartOfAFullTableWhoseFirstHasAnAnswer(t *testing.T) {
	d := of(t, 3)
	for id := uint64(1); id <= 3; id++ {
		start(t, d, id, api.OK)
	}
	end(t, d, 1, "a", api.OK)
	start(t, d, 4, api.OK)
	gone(t, d, 1)
	waits(t, d, 2, 3, 4)
	counts(t, d, 3, 3)
	start(t, d, 5, api.ErrFull) // 2 is the first one now
	waits(t, d, 2, 3, 4)
	end(t, d, 2, "b", api.OK)
	end(t, d, 3, "c", api.OK)
	start(t, d, 5, api.OK)
	gone(t, d, 1, 2)
	has(t, d, 3, "c") // only one goes
	waits(t, d, 4, 5)
	counts(t, d, 3, 2)
}

func TestStartOfAFullTableWhoseFirstHasNone(t *testing.T) {
	d := of(t, 3)
	for id := uint64(1); id <= 3; id++ {
		start(t, d, id, api.OK)
	}
	end(t, d, 2, "b", api.OK)
	end(t, d, 3, "c", api.OK)
	for range 3 {
		start(t, d, 4, api.ErrFull)
		waits(t, d, 1)
		has(t, d, 2, "b")
		has(t, d, 3, "c")
		gone(t, d, 4)
		counts(t, d, 3, 1)
	}
	end(t, d, 1, "a", api.OK)
	for i, first := range []uint64{1, 2, 3} { // in the order in which they were started, not answered
		start(t, d, uint64(4+i), api.OK)
		gone(t, d, first)
	}
	counts(t, d, 3, 3)
	start(t, d, 7, api.ErrFull)
}

// As long as there is room nothing goes, answered or not.
func TestStartWithRoom(t *testing.T) {
	d := of(t, 3)
	start(t, d, 1, api.OK)
	end(t, d, 1, "a", api.OK)
	start(t, d, 2, api.OK)
	end(t, d, 2, "b", api.OK)
	start(t, d, 3, api.OK)
	has(t, d, 1, "a")
	has(t, d, 2, "b")
	waits(t, d, 3)
	counts(t, d, 3, 1)
}

// Neither to look at the first one, nor to answer it, nor to start it again makes a later one of it.
func TestTheFirstStaysTheFirst(t *testing.T) {
	d := of(t, 3)
	for id := uint64(1); id <= 3; id++ {
		start(t, d, id, api.OK)
	}
	end(t, d, 3, "c", api.OK)
	end(t, d, 2, "b", api.OK)
	end(t, d, 1, "a", api.OK)
	start(t, d, 1, api.ErrTwice)
	end(t, d, 1, "x", api.ErrState)
	has(t, d, 1, "a")
	start(t, d, 4, api.OK)
	gone(t, d, 1)
	has(t, d, 2, "b")
	has(t, d, 3, "c")
}

func TestEnd(t *testing.T) {
	d := of(t, 2)
	start(t, d, 1, api.OK)
	start(t, d, 2, api.OK)
	long := strings.Repeat("long \x00\xff", 10000)
	end(t, d, 2, long, api.OK)
	has(t, d, 2, long)
	waits(t, d, 1)
	end(t, d, 1, "ä\n", api.OK)
	has(t, d, 1, "ä\n")
	has(t, d, 2, long)
}

func TestEndOfWhatIsNotThere(t *testing.T) {
	d := of(t, 2)
	end(t, d, 0, "a", api.ErrNone)
	end(t, d, 1, "", api.ErrNone)
	gone(t, d, 0, 1)
	counts(t, d, 0, 0)
	start(t, d, 1, api.OK)
	end(t, d, 2, "b", api.ErrNone)
	gone(t, d, 2)
	waits(t, d, 1)
	counts(t, d, 1, 1)
}

func TestEndTwice(t *testing.T) {
	d := of(t, 2)
	start(t, d, 1, api.OK)
	start(t, d, 2, api.OK)
	end(t, d, 1, "a", api.OK)
	for _, answer := range []string{"b", "", "a"} { // even the same one
		end(t, d, 1, answer, api.ErrState)
		has(t, d, 1, "a")
		counts(t, d, 2, 1)
	}
}

func TestAnEmptyAnswerIsOne(t *testing.T) {
	d := of(t, 1)
	start(t, d, 1, api.OK)
	waits(t, d, 1)
	end(t, d, 1, "", api.OK)
	has(t, d, 1, "")
	counts(t, d, 1, 0)
	end(t, d, 1, "a", api.ErrState)
	has(t, d, 1, "")
	start(t, d, 2, api.OK) // so it goes for another one
	gone(t, d, 1)
	waits(t, d, 2)
}

func TestEndOfWhatWent(t *testing.T) {
	d := of(t, 1)
	start(t, d, 1, api.OK)
	end(t, d, 1, "a", api.OK)
	start(t, d, 2, api.OK)
	end(t, d, 1, "b", api.ErrNone)
	gone(t, d, 1)
	waits(t, d, 2)
	counts(t, d, 1, 1)
}

// What went, and is started again, is a new one: the last, without an answer.
func TestWhatWentIsStartedAgain(t *testing.T) {
	d := of(t, 2)
	for id := uint64(1); id <= 2; id++ {
		start(t, d, id, api.OK)
		end(t, d, id, fmt.Sprint("first ", id), api.OK)
	}
	start(t, d, 3, api.OK)
	gone(t, d, 1)
	start(t, d, 1, api.OK) // 2 goes
	waits(t, d, 3, 1)
	gone(t, d, 2)
	counts(t, d, 2, 2)
	end(t, d, 1, "second 1", api.OK)
	has(t, d, 1, "second 1")
	start(t, d, 2, api.ErrFull) // 3 is ahead of it
	end(t, d, 3, "", api.OK)
	start(t, d, 2, api.OK)
	gone(t, d, 3)
	has(t, d, 1, "second 1")
	waits(t, d, 2)
}

func TestOfRoom1(t *testing.T) {
	d := of(t, 1)
	for i := range uint64(100) {
		id := i * i
		start(t, d, id, api.OK)
		start(t, d, id, api.ErrTwice)
		start(t, d, id+1000000, api.ErrFull)
		waits(t, d, id)
		counts(t, d, 1, 1)
		end(t, d, id, fmt.Sprint(i), api.OK)
		has(t, d, id, fmt.Sprint(i))
		counts(t, d, 1, 0)
	}
}

// P4.2

func TestFindLenAndWaits(t *testing.T) {
	d := of(t, 3)
	gone(t, d, 1, 2, 3)
	counts(t, d, 0, 0)
	start(t, d, 1, api.OK)
	waits(t, d, 1)
	gone(t, d, 2, 3)
	counts(t, d, 1, 1)
	start(t, d, 2, api.OK)
	waits(t, d, 1, 2)
	counts(t, d, 2, 2)
	end(t, d, 1, "a", api.OK)
	has(t, d, 1, "a")
	waits(t, d, 2)
	counts(t, d, 2, 1)
	start(t, d, 3, api.OK)
	counts(t, d, 3, 2)
	start(t, d, 4, api.OK) // 1 goes
	gone(t, d, 1)
	counts(t, d, 3, 3)
	end(t, d, 4, "d", api.OK)
	end(t, d, 3, "c", api.OK)
	end(t, d, 2, "b", api.OK)
	has(t, d, 2, "b")
	has(t, d, 3, "c")
	has(t, d, 4, "d")
	counts(t, d, 3, 0)
}

func TestNil(t *testing.T) {
	var d *dedup.Table
	for _, id := range []uint64{0, 1, math.MaxUint64} {
		start(t, d, id, api.ErrArg)
		end(t, d, id, "a", api.ErrArg)
		end(t, d, id, "", api.ErrArg)
		gone(t, d, id)
		counts(t, d, 0, 0)
	}
}

// One that New did not make has no room.
func TestOneThatIsNotMade(t *testing.T) {
	var d dedup.Table
	for range 2 {
		start(t, &d, 0, api.ErrFull)
		end(t, &d, 0, "a", api.ErrNone)
		gone(t, &d, 0)
		counts(t, &d, 0, 0)
	}
}

func TestTablesAreApart(t *testing.T) {
	a, b := of(t, 1), of(t, 1)
	start(t, a, 1, api.OK)
	gone(t, b, 1)
	counts(t, b, 0, 0)
	start(t, b, 1, api.OK)
	end(t, b, 1, "b", api.OK)
	waits(t, a, 1)
	counts(t, a, 1, 1)
	has(t, b, 1, "b")
}

// P4.3

func TestFoundTillRoomOthersWereStarted(t *testing.T) {
	for _, room := range rooms {
		d := of(t, room)
		for i := range room/2 + 1 { // so that it stands somewhere in the ring
			start(t, d, uint64(i), api.OK)
			end(t, d, uint64(i), "", api.OK)
		}
		const one = 1 << 40
		start(t, d, one, api.OK)
		end(t, d, one, "first", api.OK)
		for i := range uint64(room - 1) {
			start(t, d, one+1+i, api.OK)
			end(t, d, one+1+i, "", api.OK)
			end(t, d, one, "second", api.ErrState)
			start(t, d, one, api.ErrTwice)
			has(t, d, one, "first")
		}
		start(t, d, one-1, api.OK)
		gone(t, d, one)
		counts(t, d, room, 1)
	}
}

// What waits is found however many are tried behind it, and takes its answer then.
func TestWhatWaitsIsFound(t *testing.T) {
	for _, room := range rooms {
		d := of(t, room)
		start(t, d, 0, api.OK)
		for i := range 2 * room {
			e := api.ErrFull
			if i < room-1 {
				e = api.OK
			}
			start(t, d, uint64(i+1), e)
			if e == api.OK {
				end(t, d, uint64(i+1), "x", api.OK)
			}
			waits(t, d, 0)
		}
		counts(t, d, room, 1)
		end(t, d, 0, "late", api.OK)
		has(t, d, 0, "late")
		counts(t, d, room, 0)
	}
}

// row is a table written plainly: requests in the order in which they were started.
type row struct {
	list []seen
	room int
}

type seen struct {
	id     uint64
	answer string
	ended  bool
}

func (r *row) at(id uint64) int {
	return slices.IndexFunc(r.list, func(s seen) bool { return s.id == id })
}

func (r *row) start(id uint64) api.Errno {
	if r.at(id) >= 0 {
		return api.ErrTwice
	}
	if len(r.list) == r.room {
		if !r.list[0].ended {
			return api.ErrFull
		}
		r.list = slices.Clone(r.list[1:])
	}
	r.list = append(r.list, seen{id: id})
	return api.OK
}

func (r *row) end(id uint64, answer string) api.Errno {
	at := r.at(id)
	if at < 0 {
		return api.ErrNone
	}
	if r.list[at].ended {
		return api.ErrState
	}
	r.list[at].answer, r.list[at].ended = answer, true
	return api.OK
}

// stands tells whether a table has just what a row has, of the ids below some.
func stands(t *testing.T, d *dedup.Table, r *row, ids uint64) {
	t.Helper()
	waiting := 0
	for _, s := range r.list {
		find(t, d, s.id, s.answer, s.ended, true)
		if !s.ended {
			waiting++
		}
	}
	for id := range ids {
		if r.at(id) < 0 {
			gone(t, d, id)
		}
	}
	counts(t, d, len(r.list), waiting)
}

// goes lets a table and a row go on alike: step by step a start, or an end, of an id, as next tells.
func goes(t *testing.T, room, steps int, ids uint64, next func() (uint64, bool)) {
	t.Helper()
	d, r := of(t, room), &row{room: room}
	for i := range steps {
		id, starts := next()
		if starts {
			start(t, d, id, r.start(id))
		} else {
			answer := strings.Repeat("x", i%3)
			end(t, d, id, answer, r.end(id, answer))
		}
		stands(t, d, r, ids)
	}
}

func TestEachWayOfFewSteps(t *testing.T) {
	const ids, steps = 3, 6
	ways := 1
	for range steps {
		ways *= 2 * ids
	}
	for room := 1; room <= 3; room++ {
		for way := range ways {
			left := way
			goes(t, room, steps, ids, func() (uint64, bool) {
				step := left % (2 * ids)
				left /= 2 * ids
				return uint64(step / 2), step%2 == 0
			})
		}
	}
}

func TestLongWays(t *testing.T) {
	for room := 1; room <= 6; room++ {
		for ids := uint64(room); ids <= uint64(room)+3; ids++ {
			x := ids
			goes(t, room, 3000, ids, func() (uint64, bool) {
				x = x*6364136223846793005 + 1442695040888963407
				return x >> 33 % ids, x>>62&1 == 0
			})
		}
	}
}

func ExampleTable() {
	d := dedup.New(1)
	fmt.Println(d.Start(5), d.Start(6) == api.ErrFull)
	fmt.Println(d.End(5, "five"), d.Start(6))
	fmt.Println(d.Find(5))
	fmt.Println(d.Find(6))
	// Output:
	// 0 true
	// 0 0
	//  false false
	//  false true
}
