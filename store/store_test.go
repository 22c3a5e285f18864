package store_test

import (
	"bytes"
	"fmt"
	"math"
	"math/rand/v2"
	"testing"

	"louver/store"
)

// round is how many numbers there are.
const round = 1 << 16

// rooms are some that may be.
var rooms = []int{1, 2, 3, 7, 64, 4095, 4096}

// of is a store of a room that may be.
func of(t *testing.T, room int) *store.Store {
	t.Helper()
	s := store.New(room)
	if s == nil {
		t.Fatalf("room %d: none", room)
	}
	return s
}

// some are bytes that differ by n, 1 to 4 of them.
func some(n int) []byte {
	b := []byte{byte(n), byte(n >> 8), byte(n >> 16), byte(n >> 24)}
	for len(b) > 1 && b[len(b)-1] == 0 {
		b = b[:len(b)-1]
	}
	return b
}

// has looks twice: who looks changes nothing.
func has(t *testing.T, s *store.Store, seq uint16, want []byte) {
	t.Helper()
	for range 2 {
		if b, ok := s.Get(seq); !ok || !bytes.Equal(b, want) {
			t.Fatalf("get of %d: %v %v, not %v", seq, b, ok, want)
		}
	}
}

// gone tells whether no packet is kept as any of those.
func gone(t *testing.T, s *store.Store, seqs ...uint16) {
	t.Helper()
	for _, seq := range seqs {
		for range 2 {
			if b, ok := s.Get(seq); ok || len(b) != 0 {
				t.Fatalf("get of %d: %v %v, not nothing, false", seq, b, ok)
			}
		}
	}
}

// counts tells whether so many are kept.
func counts(t *testing.T, s *store.Store, want int) {
	t.Helper()
	if got := s.Len(); got != want {
		t.Fatalf("%d are kept, not %d", got, want)
	}
}

// row is a store written plainly: all that was added, in order, of which the last ones are kept.
type row struct {
	list []packet
	room int
}

type packet struct {
	seq  uint16
	data []byte
}

func (r *row) add(seq uint16, b []byte) { r.list = append(r.list, packet{seq, bytes.Clone(b)}) }

func (r *row) kept() []packet { return r.list[max(0, len(r.list)-r.room):] }

// stands tells whether a store has just what a row has, of those numbers.
func stands(t *testing.T, s *store.Store, r *row, seqs ...uint16) {
	t.Helper()
	counts(t, s, len(r.kept()))
	last := map[uint16][]byte{}
	for _, p := range r.kept() {
		last[p.seq] = p.data
	}
	for _, seq := range seqs {
		if b, ok := last[seq]; ok {
			has(t, s, seq, b)
		} else {
			gone(t, s, seq)
		}
	}
}

// first are the numbers below n.
func first(n int) []uint16 {
	var l []uint16
	for seq := range n {
		l = append(l, uint16(seq))
	}
	return l
}

// P10.1

func TestNewOfARoomThatMayBe(t *testing.T) {
	for _, room := range rooms {
		s := of(t, room)
		counts(t, s, 0)
		gone(t, s, 0, 1, 32768, 65535)
	}
}

func TestNewOfARoomThatMayNotBe(t *testing.T) {
	for _, room := range []int{0, -1, -2, -4096, math.MinInt32, math.MinInt, 4097, 4098, 65536, math.MaxInt32, math.MaxInt} {
		if store.New(room) != nil {
			t.Errorf("room %d: there is one", room)
		}
	}
}

func TestAddTillFull(t *testing.T) {
	for _, room := range rooms {
		s := of(t, room)
		for i := range room {
			gone(t, s, uint16(i))
			s.Add(uint16(i), some(i))
			has(t, s, uint16(i), some(i))
			counts(t, s, i+1)
		}
		for i := range room { // just as many as the room: none went
			has(t, s, uint16(i), some(i))
		}
		gone(t, s, uint16(room), 65535)
		counts(t, s, room)
	}
}

func TestAddOfOneMore(t *testing.T) {
	for _, room := range rooms {
		s := of(t, room)
		for i := range room + 1 {
			s.Add(uint16(i), some(i))
		}
		gone(t, s, 0)
		for i := range room {
			has(t, s, uint16(i+1), some(i+1))
		}
		counts(t, s, room)
	}
}

// With each one more the first of those that are kept goes, and that one alone.
func TestAddOfManyTimesAsMany(t *testing.T) {
	for _, room := range rooms {
		s := of(t, room)
		n := 5*room + room/2 + 1
		for i := range n {
			s.Add(uint16(i), some(i))
			has(t, s, uint16(i), some(i))
			has(t, s, uint16(max(0, i-room+1)), some(max(0, i-room+1)))
			if i >= room {
				gone(t, s, uint16(i-room))
			}
			counts(t, s, min(i+1, room))
		}
		for i := range n {
			if i < n-room {
				gone(t, s, uint16(i))
			} else {
				has(t, s, uint16(i), some(i))
			}
		}
	}
}

// Neither to be asked for, nor to be told, makes a later one of a packet.
func TestTheFirstStaysTheFirst(t *testing.T) {
	s := of(t, 3)
	for seq := uint16(1); seq <= 3; seq++ {
		s.Add(seq, some(int(seq)))
	}
	for range 5 {
		has(t, s, 1, some(1))
	}
	s.Add(4, some(4))
	gone(t, s, 1)
	has(t, s, 2, some(2))
	s.Add(5, some(5))
	gone(t, s, 1, 2)
	has(t, s, 3, some(3))
	has(t, s, 4, some(4))
	has(t, s, 5, some(5))
}

// The order is that in which they were added, not that of their numbers.
func TestTheFirstIsTheOneAddedFirst(t *testing.T) {
	seqs := []uint16{9, 65535, 0, 32768, 3, 1, 40000, 2}
	s := of(t, 3)
	for i, seq := range seqs {
		s.Add(seq, some(i))
		for j, other := range seqs[:i+1] {
			if j > i-3 {
				has(t, s, other, some(j))
			} else {
				gone(t, s, other)
			}
		}
	}
}

func TestAddOfEachNumber(t *testing.T) {
	for _, room := range []int{1, 2, 1000, 4096} {
		s := of(t, room)
		for seq := range round {
			gone(t, s, uint16(seq))
			s.Add(uint16(seq), some(seq))
			has(t, s, uint16(seq), some(seq))
		}
		for seq := range round {
			if seq < round-room {
				gone(t, s, uint16(seq))
			} else {
				has(t, s, uint16(seq), some(seq))
			}
		}
		counts(t, s, room)
	}
}

// Numbers 0 and 65535 are ones like any other; behind 65535 they go on at 0.
func TestAddOfTheFirstAndTheLastNumber(t *testing.T) {
	for _, seq := range []uint16{0, 65535} {
		s := of(t, 2)
		gone(t, s, 0, 65535)
		s.Add(seq, []byte("a"))
		has(t, s, seq, []byte("a"))
		gone(t, s, 65535-seq, 1, 65534, 32768)
		s.Add(7, []byte("b"))
		has(t, s, seq, []byte("a"))
		s.Add(8, []byte("c"))
		gone(t, s, seq)
		counts(t, s, 2)
	}
	s := of(t, 3)
	for _, seq := range []uint16{65534, 65535, 0, 1} {
		s.Add(seq, some(int(seq)))
	}
	gone(t, s, 65534)
	has(t, s, 65535, some(65535))
	has(t, s, 0, some(0))
	has(t, s, 1, some(1))
}

func TestAddOfRoom1(t *testing.T) {
	s := of(t, 1)
	for i := range 1000 {
		seq := uint16(i * i)
		s.Add(seq, some(i))
		has(t, s, seq, some(i))
		gone(t, s, uint16((i-1)*(i-1)), seq+1, seq-1)
		counts(t, s, 1)
		s.Add(seq, some(i+7))
		has(t, s, seq, some(i+7))
		counts(t, s, 1)
	}
}

func TestAddOfPacketsOfEachLength(t *testing.T) {
	s := of(t, 64)
	lengths := []int{0, 1, 2, 11, 12, 255, 256, 1499, 1500, 1501, 65535, 65536, 1000000}
	for i, n := range lengths {
		s.Add(uint16(i), bytes.Repeat([]byte{byte(i + 1)}, n))
	}
	for i, n := range lengths {
		has(t, s, uint16(i), bytes.Repeat([]byte{byte(i + 1)}, n))
	}
	var all []byte
	for i := range 256 {
		all = append(all, byte(i))
	}
	s.Add(0, all)
	has(t, s, 0, all)
}

// P10.2

// A packet of no bytes is kept, takes room, and isn't what was never added.
func TestPacketsOfNoBytes(t *testing.T) {
	for _, none := range [][]byte{nil, {}} {
		s := of(t, 2)
		s.Add(5, none)
		has(t, s, 5, nil)
		gone(t, s, 0, 4, 6)
		counts(t, s, 1)
		s.Add(6, []byte("a"))
		has(t, s, 5, nil)
		has(t, s, 6, []byte("a"))
		counts(t, s, 2)
		s.Add(6, none) // 5 goes; the one that was added last has no bytes
		gone(t, s, 5)
		has(t, s, 6, nil)
		s.Add(0, none) // so it is still that one, though one with bytes went
		has(t, s, 6, nil)
		has(t, s, 0, nil)
		counts(t, s, 2)
		s.Add(0, []byte("b"))
		has(t, s, 0, []byte("b"))
		gone(t, s, 6)
		s.Add(1, none)
		s.Add(2, none)
		gone(t, s, 0)
		counts(t, s, 2)
	}
}

func TestGetOfWhatWasNeverAdded(t *testing.T) {
	s := of(t, 4096)
	for i := range 100 {
		s.Add(uint16(65500+i*2), some(i)) // from 65500 on, round to 162: those between them are none
	}
	for seq := range round {
		if at := (seq - 65500 + round) % round; at%2 == 0 && at/2 < 100 {
			has(t, s, uint16(seq), some(at/2))
		} else {
			gone(t, s, uint16(seq))
		}
	}
	counts(t, s, 100)
}

func TestTheSameNumberOnceMore(t *testing.T) {
	s := of(t, 3)
	s.Add(5, []byte("a"))
	s.Add(5, []byte("bb"))
	has(t, s, 5, []byte("bb"))
	counts(t, s, 2) // both are kept
	s.Add(6, []byte("c"))
	has(t, s, 5, []byte("bb"))
	counts(t, s, 3)
	s.Add(7, []byte("d")) // the one that was added first as 5 goes
	has(t, s, 5, []byte("bb"))
	has(t, s, 6, []byte("c"))
	has(t, s, 7, []byte("d"))
	counts(t, s, 3)
	s.Add(8, []byte("e")) // the other one
	gone(t, s, 5)
	has(t, s, 6, []byte("c"))
	has(t, s, 7, []byte("d"))
	has(t, s, 8, []byte("e"))
	counts(t, s, 3)
}

// What is added again takes the place of none: with others between, it is told till it goes itself.
func TestTheSameNumberWithOthersBetween(t *testing.T) {
	s := of(t, 4)
	for i, seq := range []uint16{5, 6, 5, 7} {
		s.Add(seq, some(i))
	}
	has(t, s, 5, some(2))
	counts(t, s, 4)
	s.Add(8, some(4)) // 5 as it was first
	has(t, s, 5, some(2))
	has(t, s, 6, some(1))
	s.Add(9, some(5)) // 6
	has(t, s, 5, some(2))
	gone(t, s, 6)
	s.Add(10, some(6)) // 5 as it was last
	gone(t, s, 5, 6)
	has(t, s, 7, some(3))
	counts(t, s, 4)
}

// Of one number so many as the room, and others behind them: one by one they go, and the one added last is told till it goes.
func TestTheSameNumberSeveralTimes(t *testing.T) {
	for _, room := range rooms {
		for _, times := range []int{2, 3, room - 1, room, room + 1, 3*room + 2} {
			if times < 1 {
				continue
			}
			s := of(t, room)
			for i := range times {
				s.Add(5, some(i))
				has(t, s, 5, some(i))
				counts(t, s, min(i+1, room))
			}
			for i := range room - 1 {
				s.Add(uint16(100+i), some(i))
				has(t, s, 5, some(times-1))
				has(t, s, uint16(100+i), some(i))
				counts(t, s, min(times+i+1, room))
			}
			s.Add(6, nil)
			gone(t, s, 5)
			counts(t, s, room)
		}
	}
}

// What went and is added again is a new one: the last.
func TestWhatWentIsAddedAgain(t *testing.T) {
	s := of(t, 2)
	s.Add(1, []byte("a"))
	s.Add(2, []byte("b"))
	s.Add(3, []byte("c"))
	gone(t, s, 1)
	s.Add(1, []byte("d"))
	has(t, s, 1, []byte("d"))
	gone(t, s, 2)
	has(t, s, 3, []byte("c"))
	counts(t, s, 2)
	s.Add(4, []byte("e"))
	has(t, s, 1, []byte("d"))
	gone(t, s, 3)
	s.Add(1, []byte("f"))
	has(t, s, 1, []byte("f"))
	has(t, s, 4, []byte("e"))
	s.Add(4, []byte("g")) // the e's place is taken
	has(t, s, 1, []byte("f"))
	has(t, s, 4, []byte("g"))
	s.Add(5, nil)
	gone(t, s, 1)
	has(t, s, 4, []byte("g"))
	counts(t, s, 2)
}

func TestLenAtEachStep(t *testing.T) {
	s := of(t, 3)
	for i, step := range []struct {
		seq  uint16
		want int
	}{{1, 1}, {2, 2}, {3, 3}, {4, 3}, {4, 3}, {4, 3}, {4, 3}, {1, 3}, {2, 3}} {
		s.Add(step.seq, some(i))
		counts(t, s, step.want)
		s.Get(step.seq)
		s.Get(99)
		counts(t, s, step.want)
	}
	s = of(t, 4)
	for i := range 9 { // of one number
		s.Add(0, some(i))
		counts(t, s, min(i+1, 4))
	}
}

func TestNil(t *testing.T) {
	var s *store.Store
	for range 2 {
		for _, seq := range []uint16{0, 1, 65535} {
			s.Add(seq, []byte("a"))
			s.Add(seq, nil)
			gone(t, s, seq)
			counts(t, s, 0)
		}
	}
}

// One that New did not make has no room.
func TestOneThatIsNotMade(t *testing.T) {
	var s store.Store
	for range 2 {
		s.Add(0, []byte("a"))
		gone(t, &s, 0)
		counts(t, &s, 0)
	}
}

func TestStoresAreApart(t *testing.T) {
	a, b := of(t, 1), of(t, 1)
	a.Add(1, []byte("a"))
	gone(t, b, 1)
	counts(t, b, 0)
	b.Add(1, []byte("b"))
	has(t, a, 1, []byte("a"))
	has(t, b, 1, []byte("b"))
	b.Add(2, []byte("c"))
	has(t, a, 1, []byte("a"))
	counts(t, a, 1)
}

// P10.3

// goes lets a store and a row go on alike, and holds them against each other at each step.
func goes(t *testing.T, room int, seqs []uint16, adds []packet) {
	t.Helper()
	s, r := of(t, room), &row{room: room}
	stands(t, s, r, seqs...)
	for _, p := range adds {
		s.Add(p.seq, p.data)
		r.add(p.seq, p.data)
		stands(t, s, r, seqs...)
	}
}

func TestEachWayOfFewSteps(t *testing.T) {
	const numbers, steps = 3, 8
	ways := 1
	for range steps {
		ways *= numbers
	}
	seqs := []uint16{65534, 65535, 0, 1} // the last one is never added
	for room := 1; room <= 5; room++ {
		for way := range ways {
			var adds []packet
			for i := range steps {
				adds = append(adds, packet{seqs[way%numbers], some(i)})
				way /= numbers
			}
			goes(t, room, seqs, adds)
		}
	}
}

func TestManySteps(t *testing.T) {
	chance := rand.New(rand.NewPCG(10, 3))
	for i := range 60 {
		room, numbers := 1+chance.IntN(12), 1+chance.IntN(16)
		var adds []packet
		for n := range 300 {
			adds = append(adds, packet{uint16(chance.IntN(numbers)), some(i + n)[chance.IntN(2):]})
		}
		goes(t, room, first(17), adds)
	}
}

// A stream goes round, and some of its packets come late, or twice.
func TestManyStepsOfMuchRoom(t *testing.T) {
	chance := rand.New(rand.NewPCG(10, 4))
	for _, room := range []int{64, 1000, 4095, 4096} {
		s, r := of(t, room), &row{room: room}
		for i := range 3 * round / 2 {
			seq := uint16(60000 + i - chance.IntN(3)*chance.IntN(room))
			s.Add(seq, some(i))
			r.add(seq, some(i))
			if i%10007 == 0 {
				stands(t, s, r, first(round)...)
			}
		}
		stands(t, s, r, first(round)...)
	}
}

// Memory: what is handed in is copied, and stays as it is; what is told is new each time.

func TestMemoryHandedIn(t *testing.T) {
	s := of(t, 3)
	whole := []byte("abcdefgh")
	b := whole[2:5]
	s.Add(1, b)
	s.Add(2, b)
	if string(whole) != "abcdefgh" {
		t.Fatalf("what was handed in is %q", whole)
	}
	copy(whole, "XXXXXXXX")
	has(t, s, 1, []byte("cde"))
	has(t, s, 2, []byte("cde"))
	s.Add(1, b)
	has(t, s, 1, []byte("XXX"))
	has(t, s, 2, []byte("cde"))
	got, _ := s.Get(1)
	copy(got[:cap(got)], "ZZZZZZZZ")
	for range 5 { // each place is taken by another one
		s.Add(3, []byte("y"))
	}
	if string(whole) != "XXXXXXXX" {
		t.Errorf("what was handed in is %q", whole)
	}
}

func TestMemoryTold(t *testing.T) {
	s := of(t, 2)
	s.Add(1, []byte("abc"))
	s.Add(2, []byte("def"))
	told, other := get(t, s, 1), get(t, s, 1)
	copy(told[:cap(told)], "XXXXXXXX")
	if grown := append(told, "YYYYYYYY"...); len(grown) != 11 {
		t.Fatal("append")
	}
	if string(other) != "abc" {
		t.Errorf("another answer is %q", other)
	}
	has(t, s, 1, []byte("abc"))
	has(t, s, 2, []byte("def"))
	for range 3 { // the packet goes, and its number is another one's; what was told stays
		s.Add(1, []byte("ZZZ"))
	}
	if string(other) != "abc" {
		t.Errorf("an answer, once the store goes on, is %q", other)
	}
	has(t, s, 1, []byte("ZZZ"))
}

// What is told may be handed in: they are apart all the same.
func TestMemoryToldAndHandedIn(t *testing.T) {
	s := of(t, 2)
	s.Add(1, []byte("abc"))
	b := get(t, s, 1)
	s.Add(2, b)
	b[0] = 'X'
	has(t, s, 1, []byte("abc"))
	has(t, s, 2, []byte("abc"))
	get(t, s, 2)[1] = 'Y'
	has(t, s, 1, []byte("abc"))
	has(t, s, 2, []byte("abc"))
}

// get is a packet that is kept.
func get(t *testing.T, s *store.Store, seq uint16) []byte {
	t.Helper()
	b, ok := s.Get(seq)
	if !ok {
		t.Fatalf("get of %d: none", seq)
	}
	return b
}

func ExampleStore() {
	s := store.New(1)
	s.Add(5, []byte("a"))
	s.Add(6, []byte("b"))
	fmt.Println(s.Get(5))
	fmt.Println(s.Get(6))
	// Output:
	// [] false
	// [98] true
}
