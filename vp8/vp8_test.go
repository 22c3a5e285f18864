package vp8_test

import (
	"bytes"
	"fmt"
	"slices"
	"testing"

	"louver/api"
	"louver/vp8"
)

// put puts a descriptor, to just those bytes.
func put(t *testing.T, what string, d vp8.Desc, want ...byte) {
	t.Helper()
	b, err := vp8.Put(d)
	if !bytes.Equal(b, want) || err != api.OK {
		t.Errorf("%s: put %v, error %d, not %v", what, b, err, want)
	}
}

// putFails puts a descriptor, to nothing but ErrArg.
func putFails(t *testing.T, what string, d vp8.Desc) {
	t.Helper()
	b, err := vp8.Put(d)
	if len(b) != 0 || err != api.ErrArg {
		t.Errorf("%s: put %v, error %d, not ErrArg", what, b, err)
	}
}

// parse reads bytes, to just that descriptor, of so many bytes.
func parse(t *testing.T, what string, b []byte, want vp8.Desc, size int) {
	t.Helper()
	d, n, err := vp8.Parse(b)
	if d != want || n != size || err != api.OK {
		t.Errorf("%s: parse of %v: %+v, %d bytes, error %d, not %+v, %d", what, b, d, n, err, want, size)
	}
}

// tooShort tells that bytes end in the midst of a descriptor.
func tooShort(t *testing.T, what string, b []byte) {
	t.Helper()
	d, n, err := vp8.Parse(b)
	if d != (vp8.Desc{}) || n != 0 || err != api.ErrShort {
		t.Errorf("%s: parse of %v: %+v, %d bytes, error %d, not ErrShort", what, b, d, n, err)
	}
	w, err := vp8.Write(b, 5, 6)
	if len(w) != 0 || err != api.ErrShort {
		t.Errorf("%s: write of %v: %v, error %d, not ErrShort", what, b, w, err)
	}
	if vp8.Whole(b) {
		t.Errorf("%s: %v is whole", what, b)
	}
}

// both puts a descriptor to just those bytes, and parses them as it was, with and without bytes behind.
func both(t *testing.T, what string, d vp8.Desc, b ...byte) {
	t.Helper()
	put(t, what, d, b...)
	parse(t, what, b, d, len(b))
	parse(t, what+", bytes behind", append(slices.Clone(b), 255, 0, 255), d, len(b))
	for n := range b {
		tooShort(t, fmt.Sprint(what, ", ", n, " bytes"), b[:n])
	}
}

// P7.1, of what is put and parsed alike

func TestWithoutMore(t *testing.T) {
	both(t, "nothing", vp8.Desc{}, 0)
	both(t, "Lone", vp8.Desc{Lone: true}, 32)
	both(t, "Start", vp8.Desc{Start: true}, 16)
	for part := range uint8(8) {
		both(t, fmt.Sprint("Part ", part), vp8.Desc{Part: part}, part)
		both(t, fmt.Sprint("all, Part ", part), vp8.Desc{Lone: true, Start: true, Part: part}, 48+part)
	}
}

func TestWithMore(t *testing.T) {
	both(t, "More alone", vp8.Desc{More: true}, 128, 0)
	both(t, "the chapter's", vp8.Desc{More: true, Start: true, HasPic: true, Pic: 5}, 144, 128, 5)
	both(t, "Lone, Part 7", vp8.Desc{More: true, Lone: true, Part: 7}, 167, 0)
	both(t, "all but a wide one", vp8.Desc{More: true, Lone: true, Start: true, Part: 1, HasPic: true, Pic: 2, HasTl0: true, Tl0: 3, HasTid: true, Tid: 1, Sync: true, HasKey: true, Key: 4},
		177, 240, 2, 3, 100)
	both(t, "all", vp8.Desc{More: true, Lone: true, Start: true, Part: 7, HasPic: true, Wide: true, Pic: 32767, HasTl0: true, Tl0: 255, HasTid: true, Tid: 3, Sync: true, HasKey: true, Key: 31},
		183, 240, 255, 255, 255, 255)
}

func TestPic(t *testing.T) {
	for pic := range 32768 {
		d := vp8.Desc{More: true, HasPic: true, Wide: true, Pic: uint16(pic)}
		b, err := vp8.Put(d)
		if !bytes.Equal(b, []byte{128, 128, byte(128 + pic/256), byte(pic % 256)}) || err != api.OK {
			t.Fatalf("Pic %d: put %v, error %d", pic, b, err)
		}
		parse(t, "wide", b, d, 4)
	}
	for pic := range uint16(128) {
		both(t, fmt.Sprint("Pic ", pic), vp8.Desc{More: true, HasPic: true, Pic: pic}, 128, 128, byte(pic))
	}
	both(t, "a low wide one", vp8.Desc{More: true, HasPic: true, Wide: true, Pic: 5}, 128, 128, 128, 5)
	both(t, "a wide 128", vp8.Desc{More: true, HasPic: true, Wide: true, Pic: 128}, 128, 128, 128, 128)
	both(t, "a wide 258", vp8.Desc{More: true, HasPic: true, Wide: true, Pic: 258}, 128, 128, 129, 2)
}

func TestTl0(t *testing.T) {
	for tl0 := range 256 {
		both(t, fmt.Sprint(tl0), vp8.Desc{More: true, HasTl0: true, Tl0: uint8(tl0)}, 128, 64, byte(tl0))
		both(t, fmt.Sprint(tl0, " behind a Pic"), vp8.Desc{More: true, HasPic: true, Pic: 7, HasTl0: true, Tl0: uint8(tl0)}, 128, 192, 7, byte(tl0))
	}
}

func TestTidAndKey(t *testing.T) {
	for tid := range uint8(4) {
		for key := range uint8(32) {
			both(t, "Tid", vp8.Desc{More: true, HasTid: true, Tid: tid}, 128, 32, tid*64)
			both(t, "Tid and Sync", vp8.Desc{More: true, HasTid: true, Tid: tid, Sync: true}, 128, 32, tid*64+32)
			both(t, "Key", vp8.Desc{More: true, HasKey: true, Key: key}, 128, 16, key)
			both(t, "both", vp8.Desc{More: true, HasTid: true, Tid: tid, HasKey: true, Key: key}, 128, 48, tid*64+key)
			both(t, "both and Sync", vp8.Desc{More: true, HasTid: true, Tid: tid, Sync: true, HasKey: true, Key: key}, 128, 48, tid*64+32+key)
		}
	}
}

// P7.1, of Put

func TestPutOfWrong(t *testing.T) {
	for _, c := range []struct {
		what string
		d    vp8.Desc
	}{
		{"Part 8", vp8.Desc{Part: 8}},
		{"Part 8 of more", vp8.Desc{More: true, Part: 8}},
		{"Part 16", vp8.Desc{Part: 16}},
		{"Part 255", vp8.Desc{Part: 255}},
		{"HasPic without More", vp8.Desc{HasPic: true}},
		{"Wide without More", vp8.Desc{Wide: true}},
		{"Pic without More", vp8.Desc{Pic: 1}},
		{"a whole Pic without More", vp8.Desc{HasPic: true, Wide: true, Pic: 300}},
		{"HasTl0 without More", vp8.Desc{HasTl0: true}},
		{"Tl0 without More", vp8.Desc{Tl0: 1}},
		{"a whole Tl0 without More", vp8.Desc{HasTl0: true, Tl0: 1}},
		{"HasTid without More", vp8.Desc{HasTid: true}},
		{"Tid without More", vp8.Desc{Tid: 1}},
		{"Sync without More", vp8.Desc{Sync: true}},
		{"HasKey without More", vp8.Desc{HasKey: true}},
		{"Key without More", vp8.Desc{Key: 1}},
		{"Wide without HasPic", vp8.Desc{More: true, Wide: true}},
		{"Pic without HasPic", vp8.Desc{More: true, Pic: 1}},
		{"Pic 32768 without HasPic", vp8.Desc{More: true, Pic: 32768}},
		{"Wide and Pic without HasPic", vp8.Desc{More: true, Wide: true, Pic: 300}},
		{"Pic 128", vp8.Desc{More: true, HasPic: true, Pic: 128}},
		{"Pic 256", vp8.Desc{More: true, HasPic: true, Pic: 256}},
		{"Pic 32768", vp8.Desc{More: true, HasPic: true, Pic: 32768}},
		{"Pic 65535", vp8.Desc{More: true, HasPic: true, Pic: 65535}},
		{"a wide 32768", vp8.Desc{More: true, HasPic: true, Wide: true, Pic: 32768}},
		{"a wide 32773", vp8.Desc{More: true, HasPic: true, Wide: true, Pic: 32773}},
		{"a wide 65535", vp8.Desc{More: true, HasPic: true, Wide: true, Pic: 65535}},
		{"Tl0 without HasTl0", vp8.Desc{More: true, Tl0: 1}},
		{"Tl0 255 without HasTl0", vp8.Desc{More: true, Tl0: 255}},
		{"Tid without HasTid", vp8.Desc{More: true, Tid: 1}},
		{"Sync without HasTid", vp8.Desc{More: true, Sync: true}},
		{"Tid without HasTid, with HasKey", vp8.Desc{More: true, HasKey: true, Tid: 1}},
		{"Sync without HasTid, with HasKey", vp8.Desc{More: true, HasKey: true, Sync: true}},
		{"Key without HasKey", vp8.Desc{More: true, Key: 1}},
		{"Key without HasKey, with HasTid", vp8.Desc{More: true, HasTid: true, Key: 1}},
		{"Tid 4", vp8.Desc{More: true, HasTid: true, Tid: 4}},
		{"Tid 255", vp8.Desc{More: true, HasTid: true, Tid: 255}},
		{"Tid 4 without HasTid", vp8.Desc{More: true, Tid: 4}},
		{"Key 32", vp8.Desc{More: true, HasKey: true, Key: 32}},
		{"Key 255", vp8.Desc{More: true, HasKey: true, Key: 255}},
		{"Key 32 without HasKey", vp8.Desc{More: true, Key: 32}},
		{"all, and Part 8", vp8.Desc{More: true, Part: 8, HasPic: true, Pic: 2, HasTl0: true, Tl0: 3, HasTid: true, Tid: 1, Sync: true, HasKey: true, Key: 4}},
	} {
		putFails(t, c.what, c.d)
	}
}

// mayBe is the words of the chapter, one by one.
func mayBe(d vp8.Desc) bool {
	if d.Part > 7 || d.Tid > 3 || d.Key > 31 {
		return false
	}
	if !d.More && (d.HasPic || d.Wide || d.Pic != 0 || d.HasTl0 || d.Tl0 != 0 || d.HasTid || d.Tid != 0 || d.Sync || d.HasKey || d.Key != 0) {
		return false
	}
	if !d.HasPic && (d.Wide || d.Pic != 0) || !d.HasTl0 && d.Tl0 != 0 {
		return false
	}
	if !d.HasTid && (d.Tid != 0 || d.Sync) || !d.HasKey && d.Key != 0 {
		return false
	}
	return d.Pic <= 127 || d.Wide && d.Pic <= 32767
}

// each is all descriptors of some numbers.
func each(do func(d vp8.Desc)) {
	for bits := range 512 {
		is := func(k int) bool { return bits>>k&1 == 1 }
		for _, part := range []uint8{0, 7, 8} {
			for _, pic := range []uint16{0, 127, 128, 32767, 32768} {
				for _, tl0 := range []uint8{0, 200} {
					for _, tid := range []uint8{0, 3, 4} {
						for _, key := range []uint8{0, 31, 32} {
							do(vp8.Desc{More: is(0), Lone: is(1), Start: is(2), Part: part, HasPic: is(3), Wide: is(4), Pic: pic,
								HasTl0: is(5), Tl0: tl0, HasTid: is(6), Tid: tid, Sync: is(7), HasKey: is(8), Key: key})
						}
					}
				}
			}
		}
	}
}

// P7.3

func TestWhatIsPutIsParsed(t *testing.T) {
	good := 0
	each(func(d vp8.Desc) {
		b, err := vp8.Put(d)
		if !mayBe(d) {
			if len(b) != 0 || err != api.ErrArg {
				t.Errorf("%+v: put %v, error %d", d, b, err)
			}
			return
		}
		good++
		q, n, perr := vp8.Parse(append(b, 77))
		if err != api.OK || q != d || n != len(b) || perr != api.OK {
			t.Errorf("%+v: put %v, error %d, parsed %+v, %d bytes, error %d", d, b, err, q, n, perr)
		}
		if begins := d.Start && d.Part == 0; vp8.Begins(d) != begins || vp8.Whole(append(b, 76)) != begins || vp8.Whole(append(b, 77)) {
			t.Errorf("%+v: begins %v", d, vp8.Begins(d))
		}
	})
	if good < 500 {
		t.Errorf("%d of them are right", good)
	}
}

// P7.1, of Parse

// read is what a descriptor's bytes are, by a plain reader: how many they are, or 0, if there are too few.
func read(b []byte) (vp8.Desc, int) {
	at := 0
	next := func() int {
		at++
		if at > len(b) {
			return 0
		}
		return int(b[at-1])
	}
	var d vp8.Desc
	first := next()
	d.More, d.Lone, d.Start, d.Part = first/128 == 1, first/32%2 == 1, first/16%2 == 1, uint8(first%8)
	if d.More {
		has := next()
		d.HasPic, d.HasTl0, d.HasTid, d.HasKey = has/128 == 1, has/64%2 == 1, has/32%2 == 1, has/16%2 == 1
	}
	if d.HasPic {
		pic := next()
		if d.Wide = pic >= 128; d.Wide {
			pic = (pic-128)*256 + next()
		}
		d.Pic = uint16(pic)
	}
	if d.HasTl0 {
		d.Tl0 = uint8(next())
	}
	if d.HasTid || d.HasKey {
		last := next()
		if d.HasTid {
			d.Tid, d.Sync = uint8(last/64), last/32%2 == 1
		}
		if d.HasKey {
			d.Key = uint8(last % 32)
		}
	}
	if at > len(b) {
		return vp8.Desc{}, 0
	}
	return d, at
}

func TestParseAsAPlainReader(t *testing.T) {
	for first := range 256 {
		for second := range 256 {
			for _, rest := range [][]byte{nil, {5}, {200}, {200, 7}, {5, 6, 255}, {255, 255, 255, 255}, {128, 0, 9, 96, 4}, {127, 31, 224, 6, 5, 4}} {
				b := append([]byte{byte(first), byte(second)}, rest...)
				want, size := read(b)
				if size == 0 {
					tooShort(t, "ends too early", b)
					continue
				}
				parse(t, "some bytes", b, want, size)
				if !mayBe(want) {
					t.Errorf("%v: %+v is not right", b, want)
				}
				whole := want.Start && want.Part == 0 && len(b) > size && b[size]%2 == 0
				if vp8.Whole(b) != whole {
					t.Errorf("Whole of %v: not %v", b, whole)
				}
			}
		}
	}
}

func TestParseOfNoBytes(t *testing.T) {
	tooShort(t, "nil", nil)
	tooShort(t, "none", []byte{})
}

func TestParseOfBitsThatSayNothing(t *testing.T) {
	for _, nothing := range []byte{0, 8, 64, 72} {
		parse(t, "the first byte's", []byte{nothing}, vp8.Desc{}, 1)
		parse(t, "the first byte's, all others", []byte{55 + nothing}, vp8.Desc{Lone: true, Start: true, Part: 7}, 1)
		parse(t, "the first byte's, and More", []byte{128 + nothing, 0}, vp8.Desc{More: true}, 2)
	}
	for nothing := range byte(16) {
		parse(t, "the second byte's", []byte{128, nothing}, vp8.Desc{More: true}, 2)
		parse(t, "the second byte's, and Pic", []byte{128, 128 + nothing, 5}, vp8.Desc{More: true, HasPic: true, Pic: 5}, 3)
	}
	for tid := range byte(8) {
		parse(t, "Tid and Sync without HasTid", []byte{128, 16, tid*32 + 9}, vp8.Desc{More: true, HasKey: true, Key: 9}, 3)
	}
	for key := range byte(32) {
		parse(t, "Key without HasKey", []byte{128, 32, 160 + key}, vp8.Desc{More: true, HasTid: true, Tid: 2, Sync: true}, 3)
	}
}

func TestParseOfManyBytes(t *testing.T) {
	b := append([]byte{144, 128, 5}, bytes.Repeat([]byte{254}, 1<<20)...)
	parse(t, "many bytes behind", b, vp8.Desc{More: true, Start: true, HasPic: true, Pic: 5}, 3)
}

// P7.2

func TestBegins(t *testing.T) {
	for _, start := range []bool{false, true} {
		for part := range 256 {
			if want := start && part == 0; vp8.Begins(vp8.Desc{Start: start, Part: uint8(part)}) != want {
				t.Errorf("Start %v, Part %d: not %v", start, part, want)
			}
		}
	}
	if !vp8.Begins(vp8.Desc{More: true, Lone: true, Start: true, HasKey: true, Key: 9}) {
		t.Error("other fields play a part")
	}
}

func TestWhole(t *testing.T) {
	for last := range 256 {
		for _, head := range [][]byte{{16}, {48}, {88}, {144, 0}, {144, 128, 5}, {144, 128, 133, 1}, {144, 240, 5, 1, 1}} {
			b := append(slices.Clone(head), byte(last))
			if vp8.Whole(b) != (last%2 == 0) || vp8.Whole(append(b, 0)) != (last%2 == 0) || vp8.Whole(append(b, 1)) != (last%2 == 0) {
				t.Errorf("%v: whole %v", b, vp8.Whole(b))
			}
			if vp8.Whole(head) {
				t.Errorf("%v: whole, with nothing behind", head)
			}
		}
		for _, head := range [][]byte{{0}, {17}, {1}, {23}, {128, 128, 6}, {145, 128, 6}} {
			if b := append(slices.Clone(head), byte(last)); vp8.Whole(b) {
				t.Errorf("%v: whole, without a begin", b)
			}
		}
	}
}

// write writes into bytes, to just those.
func write(t *testing.T, what string, b []byte, pic uint16, tl0 uint8, want ...byte) {
	t.Helper()
	was := slices.Clone(b)
	w, err := vp8.Write(b, pic, tl0)
	if !bytes.Equal(w, want) || err != api.OK {
		t.Errorf("%s: write of %v: %v, error %d, not %v", what, was, w, err, want)
	}
	if !bytes.Equal(b, was) {
		t.Errorf("%s: %v is changed, to %v", what, was, b)
	}
}

func TestWrite(t *testing.T) {
	for _, pic := range []uint16{0, 1, 127, 128, 129, 255, 256, 300, 32767, 32768, 32769, 33000, 65535} {
		for _, tl0 := range []uint8{0, 1, 127, 128, 255} {
			low, high := byte(pic%128), byte(128+pic%32768/256)
			write(t, "one byte", []byte{16}, pic, tl0, 16)
			write(t, "one byte, and more behind", []byte{16, 128, 5}, pic, tl0, 16, 128, 5)
			write(t, "none", []byte{144, 0, 9, 9}, pic, tl0, 144, 0, 9, 9)
			write(t, "Pic", []byte{144, 128, 99, 9}, pic, tl0, 144, 128, low, 9)
			write(t, "Pic alone", []byte{144, 128, 99}, pic, tl0, 144, 128, low)
			write(t, "a wide Pic", []byte{144, 128, 199, 9, 8}, pic, tl0, 144, 128, high, byte(pic), 8)
			write(t, "a wide Pic alone", []byte{144, 128, 199, 9}, pic, tl0, 144, 128, high, byte(pic))
			write(t, "Tl0", []byte{144, 64, 9, 8}, pic, tl0, 144, 64, tl0, 8)
			write(t, "Tl0 alone", []byte{144, 64, 9}, pic, tl0, 144, 64, tl0)
			write(t, "Pic and Tl0", []byte{144, 192, 9, 8, 7}, pic, tl0, 144, 192, low, tl0, 7)
			write(t, "a wide Pic and Tl0", []byte{144, 192, 199, 9, 8, 7}, pic, tl0, 144, 192, high, byte(pic), tl0, 7)
			write(t, "Tid", []byte{144, 32, 9, 8}, pic, tl0, 144, 32, 9, 8)
			write(t, "Key", []byte{144, 16, 9, 8}, pic, tl0, 144, 16, 9, 8)
			write(t, "all", []byte{183, 240, 255, 255, 255, 255, 255}, pic, tl0, 183, 240, high, byte(pic), tl0, 255, 255)
			write(t, "all but a wide one", []byte{183, 240, 127, 255, 255, 255}, pic, tl0, 183, 240, low, tl0, 255, 255)
			write(t, "bits that say nothing", []byte{255, 143, 199, 9, 8}, pic, tl0, 255, 143, high, byte(pic), 8)
			write(t, "bits that say nothing, of the last byte", []byte{216, 111, 9, 255, 8}, pic, tl0, 216, 111, tl0, 255, 8)
			write(t, "bits that say nothing, of one byte", []byte{72, 255, 255}, pic, tl0, 72, 255, 255)
		}
	}
}

// P7.3

func TestWriteChangesNoOther(t *testing.T) {
	for first := range 256 {
		for second := range 256 {
			for _, rest := range [][]byte{{5, 6, 255, 9}, {255, 255, 255, 255}, {128, 0, 9, 96, 4}, {127, 31, 224, 6, 5, 4}} {
				b := append([]byte{byte(first), byte(second)}, rest...)
				was, size := read(b)
				w, err := vp8.Write(b, 40000, 77)
				now, n := read(w)
				if err != api.OK || len(w) != len(b) || n != size || !bytes.Equal(w[size:], b[size:]) {
					t.Fatalf("write of %v: %v, error %d", b, w, err)
				}
				want := was
				if want.HasPic {
					want.Pic = 40000 % 128
				}
				if want.Wide {
					want.Pic = 40000 % 32768
				}
				if want.HasTl0 {
					want.Tl0 = 77
				}
				if now != want {
					t.Fatalf("write of %v: %v, that is %+v, not %+v", b, w, now, want)
				}
				if same, _ := vp8.Write(w, was.Pic, was.Tl0); !bytes.Equal(same, b) {
					t.Fatalf("write of %v, and back: %v", b, same)
				}
			}
		}
	}
}

// memory

func TestNewMemory(t *testing.T) {
	b := append(make([]byte, 0, 16), 144, 192, 5, 6, 7)
	w, _ := vp8.Write(b, 1, 2)
	for i := range w {
		w[i] = 99
	}
	_ = append(w, 99)
	if !bytes.Equal(b, []byte{144, 192, 5, 6, 7}) || b[:6][5] != 0 {
		t.Errorf("what was told was written over: %v", b[:6])
	}
	w, _ = vp8.Write(b, 1, 2)
	for i := range b {
		b[i] = 99
	}
	if !bytes.Equal(w, []byte{144, 192, 1, 2, 7}) {
		t.Errorf("what was handed in was written over: %v", w)
	}
	d := vp8.Desc{More: true, HasTl0: true, Tl0: 1}
	one, _ := vp8.Put(d)
	one[0] = 99
	put(t, "what was put was written over", d, 128, 64, 1)
}

func ExamplePut() {
	fmt.Println(vp8.Put(vp8.Desc{Start: true, More: true, HasPic: true, Pic: 5}))
	// Output: [144 128 5] 0
}
