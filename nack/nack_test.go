package nack_test

import (
	"fmt"
	"math/rand/v2"
	"slices"
	"testing"

	"louver/nack"
)

const (
	round = 65536
	half  = round / 2
)

// pair is a pair, in few words.
func pair(pid, mask uint16) nack.Pair { return nack.Pair{Pid: pid, Mask: mask} }

// list tells that those pairs ask for just those numbers.
func list(t *testing.T, what string, pairs []nack.Pair, want ...uint16) {
	t.Helper()
	if got := nack.List(pairs...); !slices.Equal(got, want) {
		t.Errorf("%s: list of %v: %v, not %v", what, pairs, got, want)
	}
}

// pack tells that those numbers are just those pairs.
func pack(t *testing.T, what string, seqs []uint16, want ...nack.Pair) {
	t.Helper()
	if got := nack.Pack(seqs...); !slices.Equal(got, want) {
		t.Errorf("%s: pack of %v: %v, not %v", what, seqs, got, want)
	}
}

// listed is the numbers that pairs ask for, as the chapter's words tell it.
func listed(pairs []nack.Pair) []uint16 {
	var seqs []uint16
	for _, p := range pairs {
		seqs = append(seqs, p.Pid)
		value := 1 // 2^k
		for k := 0; k < 16; k++ {
			if int(p.Mask)/value%2 == 1 {
				seqs = append(seqs, uint16((int(p.Pid)+k+1)%round))
			}
			value *= 2
		}
	}
	return seqs
}

// packed is the pairs that ask for numbers, as the chapter's words tell it.
func packed(seqs []uint16) []nack.Pair {
	var pairs []nack.Pair
	bits := map[int]bool{} // those of the last pair
	for _, seq := range seqs {
		behind := round
		if len(pairs) > 0 {
			behind = (int(seq) - int(pairs[len(pairs)-1].Pid) + round) % round
		}
		switch {
		case behind == 0:
		case behind <= 16:
			if !bits[behind-1] {
				bits[behind-1] = true
				value := 1
				for range behind - 1 {
					value *= 2
				}
				pairs[len(pairs)-1].Mask += uint16(value)
			}
		default:
			pairs = append(pairs, nack.Pair{Pid: seq})
			clear(bits)
		}
	}
	return pairs
}

// edges are numbers where something might go wrong.
func edges() []uint16 {
	var seqs []uint16
	for _, at := range []int{0, 16, 256, 5000, half - 1, half, half + 1} {
		for d := -18; d <= 18; d++ {
			seqs = append(seqs, uint16((at+d+round)%round))
		}
	}
	return seqs
}

// P8.1

func TestListOfNone(t *testing.T) {
	list(t, "no pairs", nil)
	list(t, "an empty list of pairs", []nack.Pair{})
	if got := nack.List(); len(got) != 0 {
		t.Errorf("list of nothing: %v", got)
	}
}

func TestListOfOne(t *testing.T) {
	for _, c := range []struct {
		what string
		p    nack.Pair
		want []uint16
	}{
		{"nothing but Pid", pair(5, 0), []uint16{5}},
		{"Pid 0", pair(0, 0), []uint16{0}},
		{"Pid 65535", pair(65535, 0), []uint16{65535}},
		{"the lowest bit", pair(5, 1), []uint16{5, 6}},
		{"the highest bit", pair(5, 32768), []uint16{5, 21}},
		{"both of them", pair(5, 32769), []uint16{5, 6, 21}},
		{"the chapter's", pair(5, 5), []uint16{5, 6, 8}},
		{"all bits", pair(100, 65535), []uint16{100, 101, 102, 103, 104, 105, 106, 107, 108, 109, 110, 111, 112, 113, 114, 115, 116}},
		{"each other bit", pair(100, 0x5555), []uint16{100, 101, 103, 105, 107, 109, 111, 113, 115}},
		{"65535 is the last one", pair(65519, 32768), []uint16{65519, 65535}},
		{"0 is the last one", pair(65520, 32768+16384), []uint16{65520, 65535, 0}},
		{"some go round", pair(65533, 0x000f), []uint16{65533, 65534, 65535, 0, 1}},
		{"all behind it go round", pair(65535, 65535), []uint16{65535, 0, 1, 2, 3, 4, 5, 6, 7, 8, 9, 10, 11, 12, 13, 14, 15}},
		{"half of the way round", pair(32767, 3), []uint16{32767, 32768, 32769}},
	} {
		list(t, c.what, []nack.Pair{c.p}, c.want...)
	}
}

func TestListOfEachBit(t *testing.T) {
	for _, pid := range edges() {
		for k := range 16 {
			list(t, fmt.Sprint("bit ", k), []nack.Pair{pair(pid, 1<<k)}, pid, uint16((int(pid)+k+1)%round))
		}
	}
}

func TestListOfEachMask(t *testing.T) {
	for _, pid := range []uint16{0, 5, 32767, 65519, 65527, 65535} {
		for mask := range round {
			pairs := []nack.Pair{pair(pid, uint16(mask))}
			if got, want := nack.List(pairs...), listed(pairs); !slices.Equal(got, want) {
				t.Fatalf("list of %v: %v, not %v", pairs, got, want)
			}
		}
	}
}

func TestListOfEachPid(t *testing.T) {
	for pid := range round {
		for _, mask := range []uint16{0, 1, 32768, 65535, 0x1234} {
			pairs := []nack.Pair{pair(uint16(pid), mask)}
			if got, want := nack.List(pairs...), listed(pairs); !slices.Equal(got, want) {
				t.Fatalf("list of %v: %v, not %v", pairs, got, want)
			}
		}
	}
}

func TestListOfSeveral(t *testing.T) {
	for _, c := range []struct {
		what  string
		pairs []nack.Pair
		want  []uint16
	}{
		{"rising", []nack.Pair{pair(5, 5), pair(40, 2)}, []uint16{5, 6, 8, 40, 42}},
		{"falling", []nack.Pair{pair(40, 2), pair(5, 5)}, []uint16{40, 42, 5, 6, 8}},
		{"neither", []nack.Pair{pair(40, 0), pair(5, 0), pair(60000, 0), pair(20, 0)}, []uint16{40, 5, 60000, 20}},
		{"the same one twice", []nack.Pair{pair(5, 5), pair(5, 5)}, []uint16{5, 6, 8, 5, 6, 8}},
		{"of the same Pid", []nack.Pair{pair(5, 0), pair(5, 1), pair(5, 32768)}, []uint16{5, 5, 6, 5, 21}},
		{"that ask for the same number", []nack.Pair{pair(5, 3), pair(6, 1)}, []uint16{5, 6, 7, 6, 7}},
		{"one Pid in the midst of another's", []nack.Pair{pair(5, 0x0081), pair(9, 0x0008), pair(5, 0x0080)}, []uint16{5, 6, 13, 9, 13, 5, 13}},
		{"across 65535 and 0", []nack.Pair{pair(65534, 3), pair(0, 1), pair(65535, 1)}, []uint16{65534, 65535, 0, 0, 1, 65535, 0}},
	} {
		list(t, c.what, c.pairs, c.want...)
	}
	p, q := pair(5, 5), pair(40, 2)
	if got := nack.List(p, q); !slices.Equal(got, []uint16{5, 6, 8, 40, 42}) {
		t.Errorf("list of pairs one by one: %v", got)
	}
}

func TestListOfMany(t *testing.T) {
	chance := rand.New(rand.NewPCG(8, 1))
	for range 2000 {
		var pairs []nack.Pair
		for range chance.IntN(40) {
			pairs = append(pairs, pair(uint16(chance.Uint32()), uint16(chance.Uint32())))
		}
		list(t, "many", pairs, listed(pairs)...)
	}
}

// P8.2

func TestPackOfNone(t *testing.T) {
	pack(t, "no numbers", nil)
	pack(t, "an empty list of numbers", []uint16{})
	if got := nack.Pack(); len(got) != 0 {
		t.Errorf("pack of nothing: %v", got)
	}
}

func TestPackOfFew(t *testing.T) {
	for _, c := range []struct {
		what string
		seqs []uint16
		want []nack.Pair
	}{
		{"the chapter's", []uint16{5, 6, 8}, []nack.Pair{pair(5, 5)}},
		{"one", []uint16{5}, []nack.Pair{pair(5, 0)}},
		{"0 alone", []uint16{0}, []nack.Pair{pair(0, 0)}},
		{"65535 alone", []uint16{65535}, []nack.Pair{pair(65535, 0)}},
		{"the last Pid", []uint16{5, 5}, []nack.Pair{pair(5, 0)}},
		{"0 as the last Pid", []uint16{0, 0}, []nack.Pair{pair(0, 0)}},
		{"1 behind", []uint16{5, 6}, []nack.Pair{pair(5, 1)}},
		{"2 behind", []uint16{5, 7}, []nack.Pair{pair(5, 2)}},
		{"15 behind", []uint16{5, 20}, []nack.Pair{pair(5, 16384)}},
		{"16 behind", []uint16{5, 21}, []nack.Pair{pair(5, 32768)}},
		{"17 behind", []uint16{5, 22}, []nack.Pair{pair(5, 0), pair(22, 0)}},
		{"1 ahead", []uint16{5, 4}, []nack.Pair{pair(5, 0), pair(4, 0)}},
		{"16 ahead", []uint16{21, 5}, []nack.Pair{pair(21, 0), pair(5, 0)}},
		{"half of the way round", []uint16{0, 32768}, []nack.Pair{pair(0, 0), pair(32768, 0)}},
		{"half of it, back", []uint16{32768, 0}, []nack.Pair{pair(32768, 0), pair(0, 0)}},
		{"less than half of it", []uint16{0, 32767}, []nack.Pair{pair(0, 0), pair(32767, 0)}},
		{"16 and then 1 behind", []uint16{5, 21, 6}, []nack.Pair{pair(5, 32769)}},
		{"behind the last number, not the Pid", []uint16{5, 21, 22}, []nack.Pair{pair(5, 32768), pair(22, 0)}},
	} {
		pack(t, c.what, c.seqs, c.want...)
	}
	if got := nack.Pack(5, 6, 22, 23); !slices.Equal(got, []nack.Pair{pair(5, 1), pair(22, 1)}) {
		t.Errorf("pack of numbers one by one: %v", got)
	}
}

func TestPackAcrossTheEnd(t *testing.T) {
	for _, c := range []struct {
		what string
		seqs []uint16
		want []nack.Pair
	}{
		{"the last Pid", []uint16{65535, 65535}, []nack.Pair{pair(65535, 0)}},
		{"1 behind", []uint16{65535, 0}, []nack.Pair{pair(65535, 1)}},
		{"16 behind", []uint16{65535, 15}, []nack.Pair{pair(65535, 32768)}},
		{"17 behind", []uint16{65535, 16}, []nack.Pair{pair(65535, 0), pair(16, 0)}},
		{"1 ahead", []uint16{0, 65535}, []nack.Pair{pair(0, 0), pair(65535, 0)}},
		{"1 ahead, and on", []uint16{0, 65535, 0}, []nack.Pair{pair(0, 0), pair(65535, 1)}},
		{"16 behind is 0", []uint16{65520, 0}, []nack.Pair{pair(65520, 32768)}},
		{"17 behind is 0", []uint16{65519, 0}, []nack.Pair{pair(65519, 0), pair(0, 0)}},
		{"16 behind is 65535", []uint16{65519, 65535}, []nack.Pair{pair(65519, 32768)}},
		{"all behind", []uint16{65530, 65531, 65532, 65533, 65534, 65535, 0, 1, 2, 3, 4, 5, 6, 7, 8, 9, 10, 11},
			[]nack.Pair{pair(65530, 65535), pair(11, 0)}},
	} {
		pack(t, c.what, c.seqs, c.want...)
	}
}

func TestPackOfWhatWasTold(t *testing.T) {
	for _, c := range []struct {
		what string
		seqs []uint16
		want []nack.Pair
	}{
		{"a Pid on end", []uint16{5, 5, 5, 6}, []nack.Pair{pair(5, 1)}},
		{"a bit on end", []uint16{5, 6, 6, 6}, []nack.Pair{pair(5, 1)}},
		{"the highest bit on end", []uint16{5, 21, 21}, []nack.Pair{pair(5, 32768)}},
		{"a bit on end across the end", []uint16{65535, 0, 0, 65535}, []nack.Pair{pair(65535, 1)}},
		{"a Pid later", []uint16{5, 6, 8, 5}, []nack.Pair{pair(5, 5)}},
		{"a bit later", []uint16{5, 6, 8, 6}, []nack.Pair{pair(5, 5)}},
		{"all of it later", []uint16{5, 6, 8, 5, 6, 8}, []nack.Pair{pair(5, 5)}},
		{"a Pid of a pair that isn't the last one", []uint16{5, 30, 5}, []nack.Pair{pair(5, 0), pair(30, 0), pair(5, 0)}},
		{"a bit of a pair that isn't the last one", []uint16{5, 6, 30, 6}, []nack.Pair{pair(5, 1), pair(30, 0), pair(6, 0)}},
		{"a bit that would be one of a pair that isn't the last one", []uint16{5, 30, 7, 8}, []nack.Pair{pair(5, 0), pair(30, 0), pair(7, 1)}},
		{"an earlier Pid as a bit", []uint16{5, 4, 5}, []nack.Pair{pair(5, 0), pair(4, 1)}},
	} {
		pack(t, c.what, c.seqs, c.want...)
	}
}

func TestPackOfFalling(t *testing.T) {
	var seqs []uint16
	var want []nack.Pair
	for i := range 200 {
		seq := uint16((100 - i + round) % round)
		seqs, want = append(seqs, seq), append(want, pair(seq, 0))
	}
	pack(t, "falling", seqs, want...)
}

// Each number there is stands behind a Pid, or ahead of it.
func TestPackOfEachNumber(t *testing.T) {
	for _, pid := range []uint16{0, 1, 5, 16, 17, 32767, 32768, 32769, 65518, 65519, 65520, 65535} {
		for x := range round {
			seqs := []uint16{pid, uint16(x)}
			if got, want := nack.Pack(seqs...), packed(seqs); !slices.Equal(got, want) {
				t.Fatalf("pack of %v: %v, not %v", seqs, got, want)
			}
		}
	}
}

// Each Mask there is comes of its numbers, in either order.
func TestPackOfEachMask(t *testing.T) {
	for _, pid := range []uint16{0, 5, 32767, 65519, 65527, 65535} {
		for mask := range round {
			want := []nack.Pair{pair(pid, uint16(mask))}
			seqs := listed(want)
			if got := nack.Pack(seqs...); !slices.Equal(got, want) {
				t.Fatalf("pack of %v: %v, not %v", seqs, got, want)
			}
			slices.Reverse(seqs[1:])
			if got := nack.Pack(seqs...); !slices.Equal(got, want) {
				t.Fatalf("pack of %v: %v, not %v", seqs, got, want)
			}
		}
	}
}

func TestPackOfMany(t *testing.T) {
	chance := rand.New(rand.NewPCG(8, 2))
	for i := range 4000 {
		seq := uint16(chance.Uint32())
		var seqs []uint16
		for range chance.IntN(60) {
			seqs = append(seqs, seq)
			seq += uint16(chance.IntN(40) - i%40)
		}
		pack(t, "many", seqs, packed(seqs)...)
	}
}

// P8.3

// back tells that the numbers of what is packed are those that were packed, each once.
func back(t *testing.T, what string, seqs []uint16) {
	t.Helper()
	got := nack.List(nack.Pack(seqs...)...)
	if want := slices.Compact(slices.Clone(seqs)); !slices.Equal(got, want) {
		t.Errorf("%s: packed %d numbers, %v on: %d came back, not %d", what, len(seqs), seqs[:min(len(seqs), 5)], len(got), len(want))
	}
}

func TestBackByEachStep(t *testing.T) {
	for _, first := range edges() {
		for _, step := range []int{1, 2, 3, 8, 15, 16, 17, 18, 33, 1000, half - 1} {
			var seqs []uint16
			for at := 0; at < half; at += step {
				seqs = append(seqs, uint16((int(first)+at)%round))
			}
			back(t, fmt.Sprint("step ", step), seqs)
		}
	}
}

func TestBackOfTwo(t *testing.T) {
	for _, first := range []uint16{0, 5, 32768, 65520, 65535} {
		for d := range half {
			back(t, "two", []uint16{first, first + uint16(d)})
		}
	}
}

func TestBackOfMany(t *testing.T) {
	chance := rand.New(rand.NewPCG(8, 3))
	for i := range 3000 {
		at, first := 0, chance.IntN(round)
		var seqs []uint16
		for at < half && len(seqs) < 500 {
			for range 1 + chance.IntN(3)*(i%2) { // some of them several times on end
				seqs = append(seqs, uint16((first+at)%round))
			}
			at += 1 + chance.IntN(1+i%50)
		}
		back(t, "many", seqs)
	}
}

// Numbers that don't rise by less than half of the way round in all come back too, but some of them more than once.
func TestBackOfOthers(t *testing.T) {
	for _, c := range []struct {
		what       string
		seqs, want []uint16
	}{
		{"half of the way round", []uint16{0, 32768}, []uint16{0, 32768}},
		{"once round", []uint16{0, 20000, 40000, 60000, 0}, []uint16{0, 20000, 40000, 60000, 0}},
		{"there and back", []uint16{5, 30, 5}, []uint16{5, 30, 5}},
		{"falling", []uint16{8, 6, 5}, []uint16{8, 6, 5}},
		{"falling, but behind the first one", []uint16{5, 8, 6}, []uint16{5, 6, 8}},
	} {
		if got := nack.List(nack.Pack(c.seqs...)...); !slices.Equal(got, c.want) {
			t.Errorf("%s: %v came back of %v, not %v", c.what, got, c.seqs, c.want)
		}
	}
	var all []uint16
	for x := range round + 1 {
		all = append(all, uint16(x%round))
	}
	if got := nack.List(nack.Pack(all...)...); !slices.Equal(got, all) {
		t.Errorf("all numbers, and 0 again: %d came back, not %d", len(got), len(all))
	}
}

// Memory: what is told is new, what is handed in stays as it is.

func TestMemoryOfList(t *testing.T) {
	all := []nack.Pair{pair(5, 5), pair(40, 2), pair(1, 1)}
	was := slices.Clone(all)
	want := []uint16{5, 6, 8, 40, 42}
	first, second := nack.List(all[:2]...), nack.List(all[:2]...)
	for i := range first[:cap(first)] {
		first[:cap(first)][i] = 7
	}
	if !slices.Equal(all, was) {
		t.Errorf("the pairs are %v, not %v", all, was)
	}
	if !slices.Equal(second, want) {
		t.Errorf("the other answer is %v, not %v", second, want)
	}
	list(t, "once more", all[:2], want...)
	all[0], all[1] = pair(9, 9), pair(9, 9)
	if !slices.Equal(second, want) {
		t.Errorf("with other pairs the answer is %v, not %v", second, want)
	}
}

func TestMemoryOfPack(t *testing.T) {
	all := []uint16{5, 6, 8, 40, 42, 1}
	was := slices.Clone(all)
	want := []nack.Pair{pair(5, 5), pair(40, 2)}
	first, second := nack.Pack(all[:5]...), nack.Pack(all[:5]...)
	for i := range first[:cap(first)] {
		first[:cap(first)][i] = pair(7, 7)
	}
	if !slices.Equal(all, was) {
		t.Errorf("the numbers are %v, not %v", all, was)
	}
	if !slices.Equal(second, want) {
		t.Errorf("the other answer is %v, not %v", second, want)
	}
	pack(t, "once more", all[:5], want...)
	for i := range all {
		all[i] = 9
	}
	if !slices.Equal(second, want) {
		t.Errorf("with other numbers the answer is %v, not %v", second, want)
	}
}

func ExamplePack() {
	pairs := nack.Pack(5, 6, 8)
	fmt.Println(pairs, nack.List(pairs...))
	// Output: [{5 5}] [5 6 8]
}
