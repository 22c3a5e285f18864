package ext_test

import (
	"bytes"
	"fmt"
	"slices"
	"testing"

	"louver/api"
	"louver/ext"
)

const (
	short = 48862
	long  = 4096
)

// kinds are profiles of both kinds.
var kinds = []uint16{short, long}

// run is n bytes, each of which is x.
func run(x byte, n int) []byte { return bytes.Repeat([]byte{x}, n) }

// item is one of just those bytes.
func item(id uint8, data ...byte) ext.Item { return ext.Item{Id: id, Data: data} }

// many are n items, whose Ids are 1 to 14 again and again.
func many(n int, data ...byte) []ext.Item {
	var l []ext.Item
	for i := range n {
		l = append(l, ext.Item{Id: uint8(i%14 + 1), Data: slices.Clone(data)})
	}
	return l
}

// alike tells whether items are the same ones; nil and empty Data are.
func alike(a, b []ext.Item) bool {
	return slices.EqualFunc(a, b, func(x, y ext.Item) bool { return x.Id == y.Id && bytes.Equal(x.Data, y.Data) })
}

// put puts items, to just that profile and those bytes.
func put(t *testing.T, what string, items []ext.Item, profile uint16, want []byte) {
	t.Helper()
	p, b, err := ext.Put(items...)
	if p != profile || !bytes.Equal(b, want) || err != api.OK {
		t.Errorf("%s: put %d %v, error %d, not %d %v", what, p, b, err, profile, want)
	}
}

// putFails puts items, to nothing but that error.
func putFails(t *testing.T, what string, items []ext.Item, want api.Errno) {
	t.Helper()
	p, b, err := ext.Put(items...)
	if p != 0 || len(b) != 0 || err != want {
		t.Errorf("%s: put %d %v, error %d, not error %d", what, p, b, err, want)
	}
}

// parse reads bytes, to just those items.
func parse(t *testing.T, what string, profile uint16, b []byte, want ...ext.Item) {
	t.Helper()
	l, err := ext.Parse(profile, b)
	if !alike(l, want) || err != api.OK {
		t.Errorf("%s: parse of %d %v: %v, error %d, not %v", what, profile, b, l, err, want)
	}
}

// parseFails reads bytes, to nothing but that error.
func parseFails(t *testing.T, what string, profile uint16, b []byte, want api.Errno) {
	t.Helper()
	l, err := ext.Parse(profile, b)
	if len(l) != 0 || err != want {
		t.Errorf("%s: parse of %d %v: %v, error %d, not error %d", what, profile, b, l, err, want)
	}
}

// find looks for an Id, to just those Data.
func find(t *testing.T, what string, l []ext.Item, id uint8, data []byte, there bool) {
	t.Helper()
	d, ok := ext.Find(l, id)
	if !bytes.Equal(d, data) || ok != there {
		t.Errorf("%s: find of %d: %v %v, not %v %v", what, id, d, ok, data, there)
	}
}

// P5.1

func TestPutShort(t *testing.T) {
	put(t, "the chapter's", []ext.Item{item(1, 'a', 'b')}, short, []byte{17, 97, 98, 0})
	put(t, "no items", nil, short, nil)
	put(t, "empty items", []ext.Item{}, short, nil)
	put(t, "one byte", []ext.Item{item(1, 9)}, short, []byte{16, 9, 0, 0})
	put(t, "Id 14", []ext.Item{item(14, 9)}, short, []byte{224, 9, 0, 0})
	put(t, "16 bytes", []ext.Item{item(3, run(7, 16)...)}, short, slices.Concat([]byte{63}, run(7, 16), run(0, 3)))
	put(t, "Id 14 of 16 bytes", []ext.Item{item(14, run(7, 16)...)}, short, slices.Concat([]byte{239}, run(7, 16), run(0, 3)))
	put(t, "in order", []ext.Item{item(5, 1), item(2, 3, 4), item(9, 6)}, short, []byte{80, 1, 33, 3, 4, 144, 6, 0})
	put(t, "two of one Id", []ext.Item{item(5, 1), item(5, 2)}, short, []byte{80, 1, 80, 2})
	put(t, "Data of noughts", []ext.Item{item(1, 0, 0)}, short, []byte{17, 0, 0, 0})
}

func TestPutShortOfEachIdAndLength(t *testing.T) {
	for id := 1; id <= 14; id++ {
		for n := 1; n <= 16; n++ {
			want := append([]byte{byte(16*id + n - 1)}, run(200, n)...)
			want = append(want, run(0, (4-len(want)%4)%4)...)
			put(t, fmt.Sprint("short ", id, " ", n), []ext.Item{item(uint8(id), run(200, n)...)}, short, want)
		}
	}
}

func TestPutLong(t *testing.T) {
	for _, c := range []struct {
		what string
		it   ext.Item
		want []byte
	}{
		{"no Data", item(1), []byte{1, 0, 0, 0}},
		{"empty Data", ext.Item{Id: 1, Data: []byte{}}, []byte{1, 0, 0, 0}},
		{"17 bytes", item(1, run(7, 17)...), slices.Concat([]byte{1, 17}, run(7, 17), run(0, 1))},
		{"255 bytes", item(1, run(7, 255)...), slices.Concat([]byte{1, 255}, run(7, 255), run(0, 3))},
		{"Id 15", item(15, 9), []byte{15, 1, 9, 0}},
		{"Id 16", item(16, 9), []byte{16, 1, 9, 0}},
		{"Id 255", item(255, 8, 9), []byte{255, 2, 8, 9}},
		{"Id 255 of 255 bytes", item(255, run(7, 255)...), slices.Concat([]byte{255, 255}, run(7, 255), run(0, 3))},
		{"Id 14 of no Data", item(14), []byte{14, 0, 0, 0}},
	} {
		put(t, c.what, []ext.Item{c.it}, long, c.want)
	}
	put(t, "in order", []ext.Item{item(200, 1), item(15), item(2, 3)}, long, []byte{200, 1, 1, 15, 0, 2, 1, 3})
}

func TestPutShortButForOne(t *testing.T) {
	for _, odd := range []ext.Item{item(15, 9), item(255, 9), item(2), item(2, run(7, 17)...)} {
		for at := range 3 {
			items := []ext.Item{item(1, 5), item(3, 6), item(4, 7, 8)}
			items[at] = odd
			var want []byte
			for _, it := range items {
				want = append(append(want, it.Id, byte(len(it.Data))), it.Data...)
			}
			want = append(want, run(0, (4-len(want)%4)%4)...)
			put(t, fmt.Sprint("odd at ", at), items, long, want)
		}
	}
}

func TestPutUpToAMultipleOfFour(t *testing.T) {
	for n := 1; n <= 9; n++ {
		for _, id := range []uint8{1, 15} {
			_, b, err := ext.Put(item(id, run(9, n)...))
			used := n + 1
			if id == 15 {
				used = n + 2
			}
			if err != api.OK || len(b)%4 != 0 || len(b) < used || len(b) > used+3 || !bytes.Equal(b[used:], run(0, len(b)-used)) {
				t.Errorf("Id %d, %d bytes: %v, error %d", id, n, b, err)
			}
		}
	}
}

func TestPutOfManyItems(t *testing.T) {
	var want []byte
	for id := 1; id <= 14; id++ {
		want = append(want, byte(16*id), 9)
	}
	put(t, "14 short ones", many(14, 9), short, want)
	want = nil
	for id := 1; id <= 14; id++ {
		want = append(want, byte(id), 0)
	}
	put(t, "14 long ones", many(14), long, want)
	for _, n := range []int{15, 16, 28, 300} {
		putFails(t, fmt.Sprint(n, " short ones"), many(n, 9), api.ErrBig)
		putFails(t, fmt.Sprint(n, " long ones"), many(n), api.ErrBig)
	}
}

func TestPutOfItemsThatMayNotBe(t *testing.T) {
	for _, c := range []struct {
		what string
		it   ext.Item
	}{
		{"Id 0", item(0, 9)},
		{"Id 0 without Data", item(0)},
		{"Id 0 of 17 bytes", item(0, run(9, 17)...)},
		{"256 bytes", item(1, run(9, 256)...)},
		{"257 bytes", item(255, run(9, 257)...)},
		{"512 bytes", item(1, run(9, 512)...)},
		{"70000 bytes", item(1, run(9, 70000)...)},
		{"Id 0 of 256 bytes", item(0, run(9, 256)...)},
	} {
		putFails(t, c.what, []ext.Item{c.it}, api.ErrArg)
		for at := range 14 {
			for _, items := range [][]ext.Item{many(14, 9), many(14)} {
				items[at] = c.it
				putFails(t, fmt.Sprint(c.what, " at ", at), items, api.ErrArg)
			}
		}
		for at := range 15 { // more than may be, and one that may not be: the first one that is named
			items := many(15, 9)
			items[at] = c.it
			putFails(t, fmt.Sprint(c.what, " of 15, at ", at), items, api.ErrBig)
		}
	}
}

func TestPutLeavesItsItems(t *testing.T) {
	for _, id := range []uint8{1, 15} {
		data := append(make([]byte, 0, 64), 1, 2)
		items := []ext.Item{{Id: id, Data: data}, item(3, 4)}
		_, b, _ := ext.Put(items...)
		was := slices.Clone(b)
		for i := range b {
			b[i] = 77
		}
		if !alike(items, []ext.Item{item(id, 1, 2), item(3, 4)}) || !bytes.Equal(data[:4], []byte{1, 2, 0, 0}) {
			t.Errorf("changed: %v %v", items, data[:4])
		}
		_, c, _ := ext.Put(items...)
		data[0], items[1].Data[0] = 88, 88
		if !bytes.Equal(c, was) {
			t.Errorf("%v, not %v", c, was)
		}
	}
}

// P5.2: Parse

func TestParseOfProfilesThatAreNone(t *testing.T) {
	is := func(p int) bool { return p == 48862 || 4096 <= p && p <= 4111 }
	for p := range 65536 {
		// a short item of an Id 0, and long ones that end too early
		l, err := ext.Parse(uint16(p), []byte{7, 7, 7})
		switch {
		case len(l) != 0:
			t.Errorf("profile %d: %v", p, l)
		case is(p) && err == api.OK:
			t.Errorf("profile %d: OK", p)
		case !is(p) && err != api.OK:
			t.Errorf("profile %d: error %d", p, err)
		}
	}
	for _, p := range []uint16{0, 4095, 4112, 48861, 48863, 65535} {
		parse(t, "none", p, nil)
		parse(t, "none", p, []byte{17, 97, 98, 0})
		parse(t, "none", p, bytes.Repeat([]byte{16, 1}, 15))
		parse(t, "none", p, []byte{31})
	}
}

func TestParseOfProfiles(t *testing.T) {
	parse(t, "the chapter's", short, []byte{17, 97, 98, 0}, item(1, 'a', 'b'))
	for p := uint16(4096); p <= 4111; p++ {
		parse(t, "long", p, []byte{17, 2, 97, 98, 15, 0, 240, 1, 5}, item(17, 97, 98), item(15), item(240, 5))
	}
}

func TestParseOfNoughts(t *testing.T) {
	for _, p := range append([]uint16{4097, 4111}, kinds...) {
		parse(t, "nil", p, nil)
		parse(t, "none", p, []byte{})
		for n := range 20 {
			parse(t, "noughts alone", p, make([]byte, n))
		}
		parse(t, "1000 of them", p, make([]byte, 1000))
	}
	parse(t, "short, all about", short, []byte{0, 0, 0, 16, 5, 0, 33, 0, 0, 0, 0, 16, 6, 0, 0, 0, 0, 0}, item(1, 5), item(2, 0, 0), item(1, 6))
	parse(t, "long, all about", long, []byte{0, 0, 0, 16, 1, 5, 0, 33, 2, 0, 0, 0, 0, 1, 0, 0, 0, 0, 0, 0}, item(16, 5), item(33, 0, 0), item(1))
	parse(t, "none about, at no multiple of four", short, []byte{16, 5, 16, 6, 33, 7, 8}, item(1, 5), item(1, 6), item(2, 7, 8))
	parse(t, "none about, at no multiple of four", long, []byte{16, 0, 16, 1, 6, 33, 0}, item(16), item(16, 6), item(33))
}

func TestParseOfEachShortHead(t *testing.T) {
	for first := 16; first < 240; first++ {
		n := first%16 + 1
		data := run(240, n)
		b := append([]byte{byte(first)}, data...)
		want := item(uint8(first/16), data...)
		parse(t, "just as many", short, b, want)
		parse(t, "one more, a nought", short, append(slices.Clone(b), 0), want)
		parse(t, "another one behind", short, append(slices.Clone(b), 16, 5), want, item(1, 5))
		for k := range n {
			parseFails(t, "too few", short, b[:k+1], api.ErrShort)
		}
	}
}

func TestParseOfEachLongHead(t *testing.T) {
	for id := 1; id < 256; id++ {
		for _, n := range []int{0, 1, 2, 15, 16, 17, 128, 254, 255} {
			data := run(255, n)
			b := append([]byte{byte(id), byte(n)}, data...)
			want := item(uint8(id), data...)
			parse(t, "just as many", long, b, want)
			parse(t, "one more, a nought", long, append(slices.Clone(b), 0), want)
			parse(t, "another one behind", long, append(slices.Clone(b), 15, 1, 5), want, item(15, 5))
		}
		parseFails(t, "its Id alone", long, []byte{byte(id)}, api.ErrShort)
		parseFails(t, "its Id alone, behind one", long, []byte{9, 1, 5, byte(id)}, api.ErrShort)
		parseFails(t, "its Id alone, behind a nought", long, []byte{0, byte(id)}, api.ErrShort)
		parseFails(t, "one byte of two", long, []byte{byte(id), 2, 5}, api.ErrShort)
		parseFails(t, "254 bytes of 255", long, append([]byte{byte(id), 255}, run(9, 254)...), api.ErrShort)
	}
}

func TestParseOfShortOnesThatEnd(t *testing.T) {
	behind := [][]byte{nil, {0}, {1}, {7, 7}, {16}, {31, 1}, {16, 5}, {240}, {255, 255}, bytes.Repeat([]byte{16, 1}, 20), run(255, 300)}
	for first := 240; first < 256; first++ {
		for _, b := range behind {
			end := append([]byte{byte(first)}, b...)
			parse(t, "ended at once", short, end)
			parse(t, "ended behind a nought", short, append([]byte{0}, end...))
			parse(t, "ended behind one", short, append([]byte{33, 7, 8}, end...), item(2, 7, 8))
			all := bytes.Repeat([]byte{16, 5}, 14)
			parse(t, "ended behind 14", short, append(all, end...), slices.Repeat([]ext.Item{item(1, 5)}, 14)...)
		}
	}
	parse(t, "an end among Data is none", short, []byte{17, 240, 255, 32, 255}, item(1, 240, 255), item(2, 255))
	parse(t, "a long one of that Id is one", long, []byte{240, 1, 5, 255, 0, 15, 1, 6}, item(240, 5), item(255), item(15, 6))
}

func TestParseOfShortOnesOfNoId(t *testing.T) {
	for first := 1; first < 16; first++ {
		for _, behind := range [][]byte{nil, {5}, run(5, first), run(5, first+1), run(5, 40)} {
			b := append([]byte{byte(first)}, behind...)
			parseFails(t, "at once", short, b, api.ErrForm)
			parseFails(t, "behind a nought", short, append([]byte{0}, b...), api.ErrForm)
			parseFails(t, "behind one", short, append([]byte{16, 5}, b...), api.ErrForm)
			parseFails(t, "the 15th", short, append(bytes.Repeat([]byte{16, 5}, 14), b...), api.ErrForm)
		}
		parse(t, "a long one", long, append([]byte{byte(first), 3}, 7, 8, 9), item(uint8(first), 7, 8, 9))
	}
}

func TestParseOfManyItems(t *testing.T) {
	one := map[uint16][]byte{short: {33, 7, 8}, long: {200, 1, 7}}
	is := map[uint16]ext.Item{short: item(2, 7, 8), long: item(200, 7)}
	for _, p := range kinds {
		for n := range 15 {
			parse(t, fmt.Sprint(n), p, bytes.Repeat(one[p], n), slices.Repeat([]ext.Item{is[p]}, n)...)
		}
		all := bytes.Repeat(one[p], 14)
		parse(t, "14, and noughts", p, append(slices.Clone(all), 0, 0, 0), slices.Repeat([]ext.Item{is[p]}, 14)...)
		for n := 15; n < 40; n++ {
			parseFails(t, fmt.Sprint(n), p, bytes.Repeat(one[p], n), api.ErrBig)
		}
		parseFails(t, "the 15th, behind noughts", p, slices.Concat(all, []byte{0, 0}, one[p]), api.ErrBig)
		parseFails(t, "the 15th, noughts behind", p, slices.Concat(all, one[p], []byte{0, 0}), api.ErrBig)
		last := one[p][:len(one[p])-1]
		parseFails(t, "the 15th, which ends too early", p, slices.Concat(all, last), api.ErrShort)
		parseFails(t, "the 16th, which ends too early", p, slices.Concat(all, one[p], last), api.ErrBig)
	}
	parseFails(t, "the 15th, of no bytes", long, bytes.Repeat([]byte{9, 0}, 15), api.ErrBig)
	parseFails(t, "the 15th, its Id alone", long, append(bytes.Repeat([]byte{9, 0}, 14), 9), api.ErrShort)
	parseFails(t, "the 16th, of an Id 0", short, append(bytes.Repeat([]byte{16, 5}, 15), 7), api.ErrBig)
}

// What is wrong first, from the front on, is told.
func TestParseItemByItem(t *testing.T) {
	parseFails(t, "no Id, then too few", short, []byte{1, 5, 5, 31}, api.ErrForm)
	parseFails(t, "no Id, of too few", short, []byte{15, 5}, api.ErrForm)
	parseFails(t, "too few, a byte of no Id among them", short, []byte{31, 1}, api.ErrShort)
	parseFails(t, "no Id behind an end plays no part, too few ahead of it does", short, []byte{18, 240, 1}, api.ErrShort)
	parse(t, "no Id behind an end", short, []byte{17, 240, 1, 240, 1}, item(1, 240, 1))
}

func TestParseTellsNewMemory(t *testing.T) {
	for _, c := range []struct {
		profile uint16
		b       []byte
	}{
		{short, []byte{17, 1, 2, 33, 3, 4, 17, 5, 6, 0}},
		{long, []byte{1, 2, 1, 2, 2, 2, 3, 4, 1, 2, 5, 6}},
	} {
		want := []ext.Item{item(1, 1, 2), item(2, 3, 4), item(1, 5, 6)}
		b := append(make([]byte, 0, 64), c.b...)
		l, _ := ext.Parse(c.profile, b)
		for i := range b {
			b[i] = 77
		}
		if !alike(l, want) {
			t.Errorf("%d: what was handed in was written over: %v", c.profile, l)
		}
		copy(b, c.b)
		l, _ = ext.Parse(c.profile, b)
		_ = append(l[0].Data, 88, 88, 88, 88, 88) // nor is there room behind it that is another one's
		l[0].Data[0], l[0].Data[1] = 88, 88
		if !bytes.Equal(b, c.b) || !alike(l[1:], want[1:]) {
			t.Errorf("%d: what was told was written over: %v, %v", c.profile, b, l)
		}
		parse(t, "again", c.profile, b, want...)
	}
}

// P5.2: Find

func TestFind(t *testing.T) {
	l := []ext.Item{item(5, 1, 2), item(255), item(2, 3), item(5, 4), item(255, 6), item(0, 7), {Id: 9, Data: []byte{}}}
	find(t, "the first of two", l, 5, []byte{1, 2}, true)
	find(t, "one without Data", l, 255, nil, true)
	find(t, "one of empty Data", l, 9, nil, true)
	find(t, "the only one", l, 2, []byte{3}, true)
	find(t, "one of an Id 0", l, 0, []byte{7}, true)
	for _, id := range []uint8{1, 3, 4, 6, 15, 254} {
		find(t, "none", l, id, nil, false)
	}
	for id := range 256 {
		find(t, "nil", nil, uint8(id), nil, false)
		find(t, "no items", []ext.Item{}, uint8(id), nil, false)
	}
}

func TestFindOfEachId(t *testing.T) {
	var l []ext.Item
	for id := 255; id >= 0; id-- {
		l = append(l, item(uint8(id), byte(id), 9), item(uint8(id), 8))
	}
	for id := range 256 {
		find(t, "each", l, uint8(id), []byte{byte(id), 9}, true)
		find(t, "each but the first ones", l[2*(256-id):], uint8(id), nil, false)
	}
}

func TestFindTellsNewMemory(t *testing.T) {
	data := append(make([]byte, 0, 64), 1, 2)
	l := []ext.Item{{Id: 5, Data: data}}
	d, _ := ext.Find(l, 5)
	_ = append(d, 88)
	d[0] = 77
	if !alike(l, []ext.Item{item(5, 1, 2)}) || data[:3][2] != 0 {
		t.Errorf("what was told was written over: %v %v", l, data[:3])
	}
	d, _ = ext.Find(l, 5)
	data[0] = 66
	if !bytes.Equal(d, []byte{1, 2}) {
		t.Errorf("what was handed in was written over: %v", d)
	}
}

// P5.3

// backAndForth puts items, and parses them as they were.
func backAndForth(t *testing.T, what string, items ...ext.Item) {
	t.Helper()
	p, b, err := ext.Put(items...)
	if err != api.OK {
		t.Errorf("%s: put: error %d", what, err)
		return
	}
	parse(t, what, p, b, items...)
}

func TestWhatIsPutIsParsed(t *testing.T) {
	backAndForth(t, "nothing")
	for id := 1; id < 256; id++ {
		for _, n := range []int{0, 1, 2, 3, 4, 15, 16, 17, 18, 254, 255} {
			for _, x := range []byte{0, 1, 15, 16, 240, 255} {
				it := item(uint8(id), run(x, n)...)
				backAndForth(t, "alone", it)
				backAndForth(t, "ahead of others", it, item(3, 0), item(3, 255))
				backAndForth(t, "behind others", item(3, 0), item(3, 240, 0), it)
			}
		}
	}
	for n := range 15 {
		backAndForth(t, "short ones", many(n, 0, 240)...)
		backAndForth(t, "long ones", many(n)...)
		backAndForth(t, "great ones", many(n, run(0, 255)...)...)
	}
}

func TestWhatIsPutIsParsedByAnyLongProfile(t *testing.T) {
	items := []ext.Item{item(1), item(15, 0, 0), item(255, run(240, 255)...)}
	_, b, _ := ext.Put(items...)
	for p := uint16(4096); p <= 4111; p++ {
		parse(t, "long", p, b, items...)
	}
}

// plain reads bytes by places, beside what the package does.
func plain(profile uint16, b []byte) ([]ext.Item, api.Errno) {
	var l []ext.Item
	for i := 0; i < len(b); {
		if b[i] == 0 {
			i++
			continue
		}
		id, from, n := b[i], i+2, 0
		if profile == short {
			id, from, n = b[i]/16, i+1, int(b[i]%16)+1
			if id == 15 {
				return l, api.OK
			}
			if id == 0 {
				return nil, api.ErrForm
			}
		} else if i+1 < len(b) {
			n = int(b[i+1])
		}
		if from+n > len(b) {
			return nil, api.ErrShort
		}
		if len(l) == 14 {
			return nil, api.ErrBig
		}
		l = append(l, item(id, b[from:from+n]...))
		i = from + n
	}
	return l, api.OK
}

// each goes through all rows of up to so many bytes of some.
func each(some []byte, most int, do func(b []byte)) {
	var grow func(b []byte)
	grow = func(b []byte) {
		do(b)
		if len(b) == most {
			return
		}
		for _, x := range some {
			grow(append(b[:len(b):len(b)], x))
		}
	}
	grow(nil)
}

func TestParseBesideAPlainOne(t *testing.T) {
	for _, p := range kinds {
		full := map[uint16][]byte{short: bytes.Repeat([]byte{16, 5}, 13), long: bytes.Repeat([]byte{16, 0}, 13)}[p]
		each([]byte{0, 1, 2, 3, 15, 16, 17, 18, 224, 240, 255}, 4, func(b []byte) {
			for _, b := range [][]byte{b, append(slices.Clone(full), b...)} {
				want, e := plain(p, b)
				l, err := ext.Parse(p, b)
				if !alike(l, want) || err != e {
					t.Fatalf("parse of %d %v: %v, error %d, not %v, error %d", p, b, l, err, want, e)
				}
				if err == api.OK {
					backAndForth(t, "what was parsed", l...)
				}
			}
		})
	}
}

func ExamplePut() {
	fmt.Println(ext.Put(ext.Item{Id: 1, Data: []byte("ab")}))
	// Output: 48862 [17 97 98 0] 0
}

func ExampleFind() {
	l, err := ext.Parse(48862, []byte{17, 97, 98, 0})
	fmt.Println(l, err)
	fmt.Println(ext.Find(l, 1))
	fmt.Println(ext.Find(l, 2))
	// Output:
	// [{1 [97 98]}] 0
	// [97 98] true
	// [] false
}
