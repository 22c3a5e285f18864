package rtp_test

import (
	"bytes"
	"fmt"
	"slices"
	"testing"

	"louver/api"
	"louver/ext"
	"louver/rtp"
)

// run is n bytes, each of which is x.
func run(x byte, n int) []byte { return bytes.Repeat([]byte{x}, n) }

// join is bytes, one behind the other, in new memory.
func join(l ...[]byte) []byte { return slices.Concat(l...) }

// item is one of just those bytes.
func item(id uint8, data ...byte) ext.Item { return ext.Item{Id: id, Data: data} }

// nums are n numbers, each of four bytes that differ.
func nums(n int) []uint32 {
	var l []uint32
	for i := range n {
		l = append(l, 0xa1b2c300+uint32(i))
	}
	return l
}

// bytesOf are those of numbers of four bytes.
func bytesOf(l []uint32) []byte {
	var b []byte
	for _, x := range l {
		b = append(b, byte(x>>24), byte(x>>16), byte(x>>8), byte(x))
	}
	return b
}

// fixed is the first 12 bytes of a packet whose numbers have bytes that differ.
func fixed(first, second byte) []byte {
	return []byte{first, second, 1, 2, 3, 4, 5, 6, 7, 8, 9, 10}
}

// some is a head with the numbers of fixed.
func some() rtp.Head { return rtp.Head{Seq: 0x0102, Time: 0x03040506, SSRC: 0x0708090a} }

// packet is one of such a head.
func packet(payload ...byte) rtp.Packet { return rtp.Packet{Head: some(), Payload: payload} }

// with is packet without a payload, changed.
func with(change func(p *rtp.Packet)) rtp.Packet {
	p := packet()
	change(&p)
	return p
}

// alike tells whether packets are the same; nil and empty lists are.
func alike(a, b rtp.Packet) bool {
	return a.Mark == b.Mark && a.Type == b.Type && a.Seq == b.Seq && a.Time == b.Time && a.SSRC == b.SSRC &&
		slices.Equal(a.CSRC, b.CSRC) && bytes.Equal(a.Payload, b.Payload) && a.Pad == b.Pad &&
		slices.EqualFunc(a.Exts, b.Exts, func(x, y ext.Item) bool { return x.Id == y.Id && bytes.Equal(x.Data, y.Data) })
}

// put puts a packet, to just those bytes.
func put(t *testing.T, what string, p rtp.Packet, want []byte) {
	t.Helper()
	b, err := rtp.Put(p)
	if !bytes.Equal(b, want) || err != api.OK {
		t.Errorf("%s: put %v, error %d, not %v", what, b, err, want)
	}
}

// putFails puts a packet, to nothing but that error.
func putFails(t *testing.T, what string, p rtp.Packet, want api.Errno) {
	t.Helper()
	b, err := rtp.Put(p)
	if len(b) != 0 || err != want {
		t.Errorf("%s: put %v, error %d, not error %d", what, b, err, want)
	}
}

// parse reads bytes, to just that packet.
func parse(t *testing.T, what string, b []byte, want rtp.Packet) {
	t.Helper()
	p, err := rtp.Parse(b)
	if !alike(p, want) || err != api.OK {
		t.Errorf("%s: parse of %v: %v, error %d, not %v", what, b, p, err, want)
	}
}

// parseFails reads bytes, to nothing but that error.
func parseFails(t *testing.T, what string, b []byte, want api.Errno) {
	t.Helper()
	p, err := rtp.Parse(b)
	if !alike(p, rtp.Packet{}) || err != want {
		t.Errorf("%s: parse of %v: %v, error %d, not error %d", what, b, p, err, want)
	}
}

// both puts a packet to just those bytes, and parses them as it was.
func both(t *testing.T, what string, p rtp.Packet, b []byte) {
	t.Helper()
	put(t, what, p, b)
	parse(t, what, b, p)
}

// A packet has its head's fields and calls.
func TestPacketHasItsHeads(t *testing.T) {
	var p rtp.Packet
	p.Mark, p.Type, p.Seq, p.Time, p.SSRC = true, 96, 0x0102, 0x03040506, 0x0708090a
	p.CSRC = nums(1)
	p.Exts = []ext.Item{item(1, 9)}
	h := rtp.Head{Mark: true, Type: 96, Seq: 0x0102, Time: 0x03040506, SSRC: 0x0708090a, CSRC: nums(1), Exts: []ext.Item{item(1, 9)}}
	if !alike(p, rtp.Packet{Head: h}) {
		t.Errorf("%v, not %v", p, h)
	}
	if p.Size() != h.Size() || p.Size() != p.Head.Size() || p.Size() != 24 {
		t.Errorf("sizes %d %d %d, not 24", p.Size(), h.Size(), p.Head.Size())
	}
	var has interface{ Size() int } = p
	if has.Size() != 24 {
		t.Errorf("size %d, not 24", has.Size())
	}
	both(t, "all of a head's", p, join(fixed(145, 224), bytesOf(nums(1)), []byte{0xbe, 0xde, 0, 1, 16, 9, 0, 0}))
	q, _ := rtp.Parse(fixed(128, 224))
	if !q.Mark || q.Type != 96 || q.Seq != 0x0102 || q.Time != 0x03040506 || q.SSRC != 0x0708090a || q.Size() != 12 {
		t.Errorf("%v", q)
	}
}

// P6.1 and P6.2, of what is put and parsed alike

func TestWithoutAnything(t *testing.T) {
	both(t, "nothing", rtp.Packet{}, []byte{128, 0, 0, 0, 0, 0, 0, 0, 0, 0, 0, 0})
	both(t, "the chapter's", rtp.Packet{Head: rtp.Head{Seq: 5}}, []byte{128, 0, 0, 5, 0, 0, 0, 0, 0, 0, 0, 0})
	empty := rtp.Packet{Head: rtp.Head{CSRC: []uint32{}, Exts: []ext.Item{}}, Payload: []byte{}}
	both(t, "empty lists", empty, append([]byte{128}, run(0, 11)...))
}

func TestNumbers(t *testing.T) {
	both(t, "bytes that differ", packet(), fixed(128, 0))
	both(t, "the highest", rtp.Packet{Head: rtp.Head{Seq: 65535, Time: 1<<32 - 1, SSRC: 1<<32 - 1}}, join([]byte{128, 0}, run(255, 10)))
	for at := range 10 {
		b := append([]byte{128, 0}, run(0, 10)...)
		b[2+at] = 200
		var p rtp.Packet
		switch {
		case at < 2:
			p.Seq = 200 << (8 * (1 - at))
		case at < 6:
			p.Time = 200 << (8 * (5 - at))
		default:
			p.SSRC = 200 << (8 * (9 - at))
		}
		both(t, fmt.Sprint("byte ", 2+at), p, b)
	}
}

func TestTypesAndMark(t *testing.T) {
	for typ := range 256 {
		for _, mark := range []bool{false, true} {
			p := with(func(p *rtp.Packet) { p.Type, p.Mark = uint8(typ), mark })
			if typ > 127 {
				putFails(t, fmt.Sprint("type ", typ), p, api.ErrArg)
				continue
			}
			second := byte(typ)
			if mark {
				second += 128
			}
			both(t, fmt.Sprint("type ", typ), p, fixed(128, second))
		}
	}
}

func TestCsrc(t *testing.T) {
	for n := range 16 {
		p := with(func(p *rtp.Packet) { p.CSRC = nums(n) })
		b := join(fixed(128+byte(n), 0), bytesOf(nums(n)))
		both(t, fmt.Sprint(n), p, b)
		p.Payload = []byte{7, 8}
		both(t, fmt.Sprint(n, " and a payload"), p, append(b, 7, 8))
	}
	both(t, "two alike", with(func(p *rtp.Packet) { p.CSRC = []uint32{5, 5} }), append(fixed(130, 0), 0, 0, 0, 5, 0, 0, 0, 5))
	for _, n := range []int{16, 17, 31, 32, 48, 64, 256, 1000} {
		putFails(t, fmt.Sprint(n), with(func(p *rtp.Packet) { p.CSRC = nums(n) }), api.ErrArg)
	}
}

func TestExts(t *testing.T) {
	for _, c := range []struct {
		what  string
		items []ext.Item
		want  []byte
	}{
		{"a short one", []ext.Item{item(1, 'a', 'b')}, []byte{0xbe, 0xde, 0, 1, 17, 97, 98, 0}},
		{"two short ones", []ext.Item{item(14, 9), item(2, 7, 8)}, []byte{0xbe, 0xde, 0, 2, 224, 9, 33, 7, 8, 0, 0, 0}},
		{"a short one of 16", []ext.Item{item(3, run(7, 16)...)}, join([]byte{0xbe, 0xde, 0, 5, 63}, run(7, 16), run(0, 3))},
		{"a long one without Data", []ext.Item{item(1)}, []byte{16, 0, 0, 1, 1, 0, 0, 0}},
		{"a long one", []ext.Item{item(15, 9)}, []byte{16, 0, 0, 1, 15, 1, 9, 0}},
		{"one of each", []ext.Item{item(1, 9), item(255, 8)}, []byte{16, 0, 0, 2, 1, 1, 9, 255, 1, 8, 0, 0}},
		{"a long one of 255", []ext.Item{item(200, run(7, 255)...)}, join([]byte{16, 0, 0, 65, 200, 255}, run(7, 255), run(0, 3))},
		{"more than 255 words", slices.Repeat([]ext.Item{item(200, run(7, 254)...)}, 5), join([]byte{16, 0, 1, 64}, bytes.Repeat(append([]byte{200, 254}, run(7, 254)...), 5))},
		{"14 of them", slices.Repeat([]ext.Item{item(1, 9)}, 14), join([]byte{0xbe, 0xde, 0, 7}, bytes.Repeat([]byte{16, 9}, 14))},
	} {
		p := with(func(p *rtp.Packet) { p.Exts = c.items })
		b := join(fixed(144, 0), c.want)
		both(t, c.what, p, b)
		p.Payload = []byte{7, 8}
		both(t, c.what+", and a payload", p, append(b, 7, 8))
		p.CSRC, p.Pad = nums(2), 2
		both(t, c.what+", and all else", p, join(fixed(178, 0), bytesOf(nums(2)), c.want, []byte{7, 8, 0, 2}))
	}
}

func TestPad(t *testing.T) {
	for n := 1; n <= 255; n++ {
		for _, payload := range [][]byte{nil, {9}, {0, 0}, {0, 5}, run(3, 300)} {
			p := packet(payload...)
			p.Pad = n
			both(t, fmt.Sprint(n), p, join(fixed(160, 0), payload, run(0, n-1), []byte{byte(n)}))
		}
	}
	both(t, "none", packet(0, 0, 2), append(fixed(128, 0), 0, 0, 2))
	for _, n := range []int{-1, -2, -255, -256, -1 << 40, 256, 257, 511, 512, 1500, 1 << 40} {
		putFails(t, fmt.Sprint(n), with(func(p *rtp.Packet) { p.Pad = n }), api.ErrArg)
	}
}

func TestPayload(t *testing.T) {
	both(t, "none", packet(), fixed(128, 0))
	both(t, "one byte", packet(0), append(fixed(128, 0), 0))
	for _, n := range []int{1, 2, 3, 4, 5, 100, 1487, 1488} {
		for _, x := range []byte{0, 1, 128, 255} {
			both(t, fmt.Sprint(n, " of ", x), packet(run(x, n)...), join(fixed(128, 0), run(x, n)))
		}
	}
}

// full is a packet with all there is, of so many bytes.
func full(size int) rtp.Packet {
	p := with(func(p *rtp.Packet) { p.CSRC, p.Exts, p.Pad = nums(15), []ext.Item{item(1, 9)}, 255 })
	p.Payload = run(9, size-12-60-8-255)
	return p
}

func TestMostBytes(t *testing.T) {
	big := slices.Repeat([]ext.Item{item(200, run(7, 255)...)}, 5) // 1292 bytes, with what stands ahead of them
	for _, c := range []struct {
		what string
		of   func(size int) rtp.Packet
	}{
		{"a payload", func(size int) rtp.Packet { return packet(run(9, size-12)...) }},
		{"all there is", full},
		{"great extensions", func(size int) rtp.Packet {
			return with(func(p *rtp.Packet) { p.Exts, p.Payload = big, run(9, size-12-1292) })
		}},
		{"padding", func(size int) rtp.Packet {
			return with(func(p *rtp.Packet) { p.Pad, p.Payload = 255, run(9, size-12-255) })
		}},
		{"CSRC", func(size int) rtp.Packet {
			return with(func(p *rtp.Packet) { p.CSRC, p.Payload = nums(15), run(9, size-12-60) })
		}},
	} {
		for _, size := range []int{1498, 1499, 1500} {
			b, err := rtp.Put(c.of(size))
			if len(b) != size || err != api.OK {
				t.Errorf("%s: %d bytes, error %d, not %d", c.what, len(b), err, size)
			}
			parse(t, c.what, b, c.of(size))
		}
		for _, size := range []int{1501, 1502, 1700, 3000, 70000} {
			putFails(t, fmt.Sprint(c.what, " of ", size), c.of(size), api.ErrBig)
		}
	}
	putFails(t, "extensions alone", with(func(p *rtp.Packet) { p.Exts = slices.Repeat(big, 2) }), api.ErrBig)
	for pad := 1; pad < 256; pad++ {
		p := packet(run(9, 1488-pad)...)
		p.Pad = pad
		if b, err := rtp.Put(p); len(b) != 1500 || err != api.OK {
			t.Errorf("Pad %d: %d bytes, error %d", pad, len(b), err)
		}
		p.Payload = append(p.Payload, 9)
		putFails(t, fmt.Sprint("Pad ", pad), p, api.ErrBig)
	}
}

// P6.1

// wrongs are what makes a packet none that may be.
var wrongs = []struct {
	what string
	do   func(p *rtp.Packet)
}{
	{"type 128", func(p *rtp.Packet) { p.Type = 128 }},
	{"type 255", func(p *rtp.Packet) { p.Type = 255 }},
	{"16 CSRC", func(p *rtp.Packet) { p.CSRC = nums(16) }},
	{"Pad -1", func(p *rtp.Packet) { p.Pad = -1 }},
	{"Pad 256", func(p *rtp.Packet) { p.Pad = 256 }},
}

func TestPutTellsTheFirstError(t *testing.T) {
	bads := []struct {
		what  string
		items []ext.Item
		err   api.Errno
	}{
		{"Id 0", []ext.Item{item(0, 9)}, api.ErrArg},
		{"256 bytes", []ext.Item{item(1, run(9, 256)...)}, api.ErrArg},
		{"15 items", slices.Repeat([]ext.Item{item(1, 9)}, 15), api.ErrBig},
		{"15 items of an Id 0", slices.Repeat([]ext.Item{item(0, 9)}, 15), api.ErrBig},
		{"a good one, then Id 0", []ext.Item{item(1, 9), item(0)}, api.ErrArg},
	}
	for _, bad := range bads {
		p := packet(7)
		p.Exts = bad.items
		putFails(t, bad.what, p, bad.err)
		p.Payload = run(9, 1501)
		putFails(t, bad.what+", of too many bytes", p, bad.err)
	}
	for _, wrong := range wrongs {
		p := packet(7)
		wrong.do(&p)
		putFails(t, wrong.what, p, api.ErrArg)
		p.Payload = run(9, 1501)
		putFails(t, wrong.what+", of too many bytes", p, api.ErrArg)
		for _, bad := range bads {
			p.Exts = bad.items
			putFails(t, wrong.what+", "+bad.what, p, api.ErrArg)
		}
		for _, other := range wrongs {
			other.do(&p)
			putFails(t, wrong.what+", "+other.what, p, api.ErrArg)
		}
	}
}

func TestPutLeavesItsPacket(t *testing.T) {
	csrc := append(make([]uint32, 0, 8), 5, 6)
	data := append(make([]byte, 0, 8), 1, 2)
	payload := append(make([]byte, 0, 600), 3, 4)
	p := rtp.Packet{Head: some(), Payload: payload, Pad: 3}
	p.CSRC, p.Exts = csrc, append(make([]ext.Item, 0, 8), ext.Item{Id: 1, Data: data})
	want := join(fixed(178, 0), []byte{0, 0, 0, 5, 0, 0, 0, 6, 0xbe, 0xde, 0, 1, 17, 1, 2, 0, 3, 4, 0, 0, 3})
	b, _ := rtp.Put(p)
	for i := range b {
		b[i] = 77
	}
	_ = append(b, 77)
	put(t, "what was told was written over", p, want)
	if csrc[:3][2] != 0 || data[:3][2] != 0 || !bytes.Equal(payload[:600][2:], run(0, 598)) || p.Exts[:2][1].Id != 0 {
		t.Error("written behind what was handed in")
	}
	b, _ = rtp.Put(p)
	csrc[0], data[0], payload[0], p.Exts[0].Id = 88, 88, 88, 2
	if !bytes.Equal(b, want) {
		t.Errorf("what was handed in was written over: %v, not %v", b, want)
	}
}

// P6.2

func TestParseOfEachFirstByte(t *testing.T) {
	for first := range 256 {
		form := first < 128 || first > 191
		for n := 1; n < 100; n++ {
			b := append([]byte{byte(first)}, run(0, n-1)...)
			switch {
			case form: // right behind it, though the bytes end there
				parseFails(t, "no packet", b, api.ErrForm)
			case n < 12+4*(first%16):
				parseFails(t, "too few bytes", b, api.ErrShort)
			}
		}
		b := append([]byte{byte(first)}, run(1, 1500)...)
		parseFails(t, "too many bytes", b, api.ErrBig)
		if form {
			parseFails(t, "1500 bytes", b[:1500], api.ErrForm)
		}
	}
	for _, first := range []byte{127, 192} {
		parseFails(t, "next to those that may be", fixed(first, 0), api.ErrForm)
		parseFails(t, "alone", []byte{first}, api.ErrForm)
	}
	parse(t, "128", fixed(128, 0), packet())
	parse(t, "191", join(fixed(191, 0), bytesOf(nums(15)), []byte{0xbe, 0xde, 0, 0, 9, 1}),
		with(func(p *rtp.Packet) { p.CSRC, p.Payload, p.Pad = nums(15), []byte{9}, 1 }))
}

func TestParseOfBytesThatEndTooEarly(t *testing.T) {
	parseFails(t, "nil", nil, api.ErrShort)
	parseFails(t, "none", []byte{}, api.ErrShort)
	b := join(fixed(191, 224), bytesOf(nums(15)), []byte{0xbe, 0xde, 0, 2, 17, 1, 2, 0, 33, 3, 4, 0}, []byte{7, 2})
	for n := range 12 + 60 + 12 {
		parseFails(t, fmt.Sprint(n, " bytes"), b[:n], api.ErrShort)
	}
	for n := range 12 {
		parseFails(t, fmt.Sprint(n, " bytes of just a head"), fixed(128, 0)[:n], api.ErrShort)
		parseFails(t, fmt.Sprint(n, " bytes of just a head, with padding"), fixed(160, 0)[:n], api.ErrShort)
	}
	for n := range 13 {
		parseFails(t, "words that are not there", join(fixed(144, 0), []byte{0xbe, 0xde, 0, 4}, run(0, n)), api.ErrShort)
		parseFails(t, "very many words", join(fixed(144, 0), []byte{0xbe, 0xde, 255, 255}, run(0, n)), api.ErrShort)
		parseFails(t, "words of a profile that is none", join(fixed(144, 0), []byte{0, 7, 0, 4}, run(0, n)), api.ErrShort)
	}
	parseFails(t, "one byte less than the words", join(fixed(144, 0), []byte{16, 0, 1, 1}, run(0, 1027)), api.ErrShort)
	parse(t, "just the words", join(fixed(144, 0), []byte{16, 0, 1, 1}, run(0, 1028)), packet())
}

func TestParseOfMostBytes(t *testing.T) {
	parse(t, "1500", join(fixed(128, 0), run(9, 1488)), packet(run(9, 1488)...))
	for _, first := range []byte{0, 127, 128, 144, 160, 191, 192, 255} {
		for _, n := range []int{1501, 1502, 3000, 70000} {
			parseFails(t, fmt.Sprint(n), join(fixed(first, 0), run(0, n-12)), api.ErrBig)
		}
	}
}

func TestParseOfExts(t *testing.T) {
	head := func(first byte, profile uint16, words byte, b ...byte) []byte {
		return append(append(fixed(first, 0), byte(profile>>8), byte(profile), 0, words), b...)
	}
	for _, profile := range []uint16{0, 7, 4095, 4112, 48861, 48863, 65535} {
		parse(t, "a profile that is none", head(144, profile, 1, 31, 1, 0, 255, 9), packet(9))
		parse(t, "a profile that is none, no words", head(144, profile, 0, 9), packet(9))
	}
	want := with(func(p *rtp.Packet) { p.Exts = []ext.Item{item(17, 5), item(3)} })
	for profile := uint16(4096); profile <= 4111; profile++ {
		parse(t, "long ones", head(144, profile, 2, 17, 1, 5, 0, 0, 3, 0, 0), want)
	}
	parse(t, "no words", head(144, 48862, 0), packet())
	parse(t, "no words, and a payload that seems an item", head(144, 48862, 0, 17, 1, 2, 0), packet(17, 1, 2, 0))
	parse(t, "noughts alone", head(144, 48862, 2, 0, 0, 0, 0, 0, 0, 0, 0, 5), packet(5))
	parse(t, "an end", head(144, 48862, 2, 16, 5, 240, 1, 1, 1, 1, 1, 6), with(func(p *rtp.Packet) { p.Exts, p.Payload = []ext.Item{item(1, 5)}, []byte{6} }))
	for _, c := range []struct {
		what string
		b    []byte
		err  api.Errno
	}{
		{"a short one of no Id", head(176, 48862, 1, 1, 5, 5, 0), api.ErrForm},
		{"a short one that ends too early", head(176, 48862, 1, 19, 1, 2, 3), api.ErrShort},
		{"a long one that ends too early", head(176, 4096, 1, 5, 3, 1, 2), api.ErrShort},
		{"a long one's Id alone", head(176, 4111, 1, 5, 1, 9, 6), api.ErrShort},
		{"15 short ones", head(176, 48862, 8, append(bytes.Repeat([]byte{16, 5}, 15), 0, 0)...), api.ErrBig},
		{"15 long ones", head(176, 4100, 8, append(bytes.Repeat([]byte{5, 0}, 15), 0, 0)...), api.ErrBig},
	} {
		parseFails(t, c.what+", nothing left", c.b, c.err) // ahead of the padding's error
		parseFails(t, c.what+", padding of 0", append(slices.Clone(c.b), 7, 0), c.err)
		parseFails(t, c.what+", padding", append(slices.Clone(c.b), 7, 1), c.err)
		c.b[0] -= 32
		parseFails(t, c.what+", no padding", c.b, c.err)
		parseFails(t, c.what+", a payload", append(slices.Clone(c.b), 7, 1), c.err)
		parseFails(t, c.what+", words that are not there", c.b[:len(c.b)-1], api.ErrShort)
	}
	parseFails(t, "ends too early, though the payload has bytes", head(144, 48862, 1, 19, 1, 2, 3, 4, 5, 6), api.ErrShort)
}

func TestParseOfPadding(t *testing.T) {
	heads := [][]byte{
		fixed(160, 0),
		join(fixed(161, 0), bytesOf(nums(1))),
		join(fixed(176, 0), []byte{0xbe, 0xde, 0, 1, 17, 1, 2, 0}),
		join(fixed(176, 0), []byte{0, 7, 0, 0}),
	}
	for i, head := range heads {
		parseFails(t, "nothing left", head, api.ErrForm)
		for n := 1; n < 300; n++ {
			for last := range 256 {
				left := append(run(3, n-1), byte(last))
				if last < 1 || last > n {
					parseFails(t, "no padding", join(head, left), api.ErrForm)
					continue
				}
				p, err := rtp.Parse(join(head, left))
				if p.Pad != last || !bytes.Equal(p.Payload, left[:n-last]) || p.SSRC != 0x0708090a || err != api.OK {
					t.Errorf("head %d: %d left, last %d: %v, error %d", i, n, last, p, err)
				}
			}
		}
	}
	both := func(pad int, payload ...byte) rtp.Packet {
		p := packet(payload...)
		p.Pad = pad
		return p
	}
	parse(t, "no noughts", append(fixed(160, 0), 9, 8, 7, 6, 3), both(3, 9, 8))
	parse(t, "just what is left, no noughts", append(fixed(160, 0), 9, 8, 7, 6, 5), both(5))
	parseFails(t, "one more than is left", append(fixed(160, 0), 9, 8, 7, 6, 6), api.ErrForm)
	parseFails(t, "not what stands in the head", append(fixed(160, 0), 14), api.ErrForm)
	parseFails(t, "0", append(fixed(160, 0), 9, 8, 7, 6, 0), api.ErrForm)
	parse(t, "without it a last byte is the payload's", append(fixed(128, 0), 9, 8, 7, 6, 3), packet(9, 8, 7, 6, 3))
	parse(t, "without it a last byte of 0 is too", append(fixed(128, 0), 9, 0), packet(9, 0))
}

func TestParseTellsNewMemory(t *testing.T) {
	was := join(fixed(178, 224), bytesOf(nums(2)), []byte{0xbe, 0xde, 0, 2, 17, 1, 2, 33, 3, 4, 0, 0}, []byte{7, 8, 0, 0, 3})
	want := with(func(p *rtp.Packet) {
		p.Mark, p.Type, p.CSRC, p.Exts, p.Payload, p.Pad = true, 96, nums(2), []ext.Item{item(1, 1, 2), item(2, 3, 4)}, []byte{7, 8}, 3
	})
	b := append(make([]byte, 0, 100), was...)
	p, _ := rtp.Parse(b)
	if !bytes.Equal(b, was) || !bytes.Equal(b[:100][len(b):], run(0, 100-len(b))) {
		t.Errorf("what was handed in was changed: %v", b[:100])
	}
	for i := range b {
		b[i] = 77
	}
	if !alike(p, want) {
		t.Errorf("what was handed in was written over: %v, not %v", p, want)
	}
	copy(b, was)
	p, _ = rtp.Parse(b)
	q, _ := rtp.Parse(b)
	p.CSRC[0], p.Exts[1].Id, p.Exts[0].Data[0], p.Payload[0] = 88, 88, 88, 88
	_, _, _ = append(p.Payload, 88, 88, 88), append(p.Exts[0].Data, 88, 88), append(p.CSRC, 88)
	if !bytes.Equal(b, was) || !alike(q, want) || !bytes.Equal(p.Exts[1].Data, []byte{3, 4}) {
		t.Errorf("what was told was written over: %v, %v, %v", b, q, p)
	}
	parse(t, "again", b, want)
}

// P6.3

func TestSize(t *testing.T) {
	for _, c := range []struct {
		what string
		exts []ext.Item
		want int
	}{
		{"none", nil, 0},
		{"empty", []ext.Item{}, 0},
		{"a short one", []ext.Item{item(1, 9)}, 8},
		{"a short one of three", []ext.Item{item(1, 9, 9, 9)}, 8},
		{"a short one of four", []ext.Item{item(1, 9, 9, 9, 9)}, 12},
		{"a long one", []ext.Item{item(1)}, 8},
		{"a long one of two", []ext.Item{item(15, 9, 9)}, 8},
		{"a long one of three", []ext.Item{item(15, 9, 9, 9)}, 12},
		{"short ones", slices.Repeat([]ext.Item{item(1, 9)}, 14), 32},
		{"long ones", slices.Repeat([]ext.Item{item(1)}, 14), 32},
		{"great ones", slices.Repeat([]ext.Item{item(1, run(9, 255)...)}, 5), 1292},
	} {
		for n := range 16 {
			h := rtp.Head{Mark: true, Type: 127, CSRC: nums(n), Exts: c.exts}
			if got := h.Size(); got != 12+4*n+c.want {
				t.Errorf("%s, %d CSRC: %d, not %d", c.what, n, got, 12+4*n+c.want)
			}
			for _, pad := range []int{0, 1, 99} {
				for _, payload := range [][]byte{nil, {9}, run(9, 36)} {
					p := rtp.Packet{Head: h, Payload: payload, Pad: pad}
					b, err := rtp.Put(p)
					if err != api.OK || len(b) != p.Size()+len(payload)+pad || !bytes.Equal(b[p.Size():p.Size()+len(payload)], payload) {
						t.Errorf("%s, %d CSRC, Pad %d: size %d, put %v, error %d", c.what, n, pad, p.Size(), b, err)
					}
				}
			}
		}
	}
	if (rtp.Head{}).Size() != 12 {
		t.Errorf("no head: %d", rtp.Head{}.Size())
	}
}

// Of a head that may not be it has some answer.
func TestSizeOfHeadsThatMayNotBe(t *testing.T) {
	for _, h := range []rtp.Head{
		{Type: 255}, {CSRC: nums(16)}, {CSRC: nums(1000)}, {Exts: []ext.Item{item(0)}},
		{Exts: []ext.Item{item(1, run(9, 256)...)}}, {Exts: make([]ext.Item, 15)}, {CSRC: nums(1000), Exts: make([]ext.Item, 1000)},
	} {
		h.Size()
	}
}

func TestSizeLeavesItsHead(t *testing.T) {
	h := some()
	h.CSRC, h.Exts = nums(2), []ext.Item{item(1, 9), item(2, 8)}
	h.Size()
	want := with(func(p *rtp.Packet) { p.CSRC, p.Exts = nums(2), []ext.Item{item(1, 9), item(2, 8)} })
	if !alike(rtp.Packet{Head: h}, want) {
		t.Errorf("changed: %v", h)
	}
}

// P6.4

func TestWhatIsPutIsParsed(t *testing.T) {
	exts := [][]ext.Item{
		nil, {item(1, 0)}, {item(14, run(240, 16)...), item(1, 0, 0)}, {item(1)}, {item(255, run(0, 255)...), item(15, 255)},
		slices.Repeat([]ext.Item{item(1, 0, 240)}, 14), slices.Repeat([]ext.Item{item(255)}, 14),
	}
	for i, items := range exts {
		for n := range 16 {
			for _, pad := range []int{0, 1, 2, 127, 128, 254, 255} {
				for _, payload := range [][]byte{nil, {0}, {0, 1}, {255}, run(0, 30), run(200, 700)} {
					p := rtp.Packet{Head: rtp.Head{
						Mark: n%2 == 0, Type: uint8(n*8 + i), Seq: uint16(n * 4369), Time: uint32(pad) << 24, SSRC: api.Own + uint32(n),
						CSRC: nums(n), Exts: items,
					}, Payload: payload, Pad: pad}
					b, err := rtp.Put(p)
					if err != api.OK {
						t.Fatalf("put %v: error %d", p, err)
					}
					parse(t, "what was put", b, p)
				}
			}
		}
	}
}

// plain reads bytes by places, beside what the package does.
func plain(b []byte) (rtp.Packet, api.Errno) {
	if len(b) > 1500 {
		return rtp.Packet{}, api.ErrBig
	}
	if len(b) == 0 {
		return rtp.Packet{}, api.ErrShort
	}
	if b[0]>>6 != 2 {
		return rtp.Packet{}, api.ErrForm
	}
	at := 12 + 4*int(b[0]&15)
	if len(b) < at {
		return rtp.Packet{}, api.ErrShort
	}
	num := func(i int) uint32 {
		return uint32(b[i])<<24 | uint32(b[i+1])<<16 | uint32(b[i+2])<<8 | uint32(b[i+3])
	}
	p := rtp.Packet{Head: rtp.Head{Mark: b[1] >= 128, Type: b[1] % 128, Seq: uint16(num(0)), Time: num(4), SSRC: num(8)}}
	for i := 12; i < at; i += 4 {
		p.CSRC = append(p.CSRC, num(i))
	}
	if b[0]/16%2 == 1 {
		if len(b) < at+4 {
			return rtp.Packet{}, api.ErrShort
		}
		from, words := at+4, int(num(at)%65536)
		at = from + 4*words
		if len(b) < at {
			return rtp.Packet{}, api.ErrShort
		}
		var err api.Errno
		if p.Exts, err = ext.Parse(uint16(num(from-4)>>16), b[from:at]); err != api.OK {
			return rtp.Packet{}, err
		}
	}
	left := b[at:]
	if b[0]/32%2 == 1 {
		if len(left) == 0 || left[len(left)-1] == 0 || int(left[len(left)-1]) > len(left) {
			return rtp.Packet{}, api.ErrForm
		}
		p.Pad = int(left[len(left)-1])
	}
	p.Payload = left[:len(left)-p.Pad]
	return p, api.OK
}

// each goes through all rows of up to so many bytes of some.
func each(some []byte, most int, do func(b []byte)) {
	var grow func(b []byte)
	grow = func(b []byte) {
		do(b)
		if len(b) == most {
			return
		}
		for _, x := range some {
			grow(append(b[:len(b):len(b)], x))
		}
	}
	grow(nil)
}

func TestParseBesideAPlainOne(t *testing.T) {
	beside := func(b []byte) {
		want, e := plain(b)
		p, err := rtp.Parse(b)
		if !alike(p, want) || err != e {
			t.Fatalf("parse of %v: %v, error %d, not %v, error %d", b, p, err, want, e)
		}
	}
	for first := range 256 {
		for n := range 100 {
			beside(join([]byte{byte(first)}, run(byte(n), n)))
		}
		for words := range 4 {
			each([]byte{0, 1, 4, 17, 240}, 3, func(b []byte) {
				for _, profile := range [][]byte{{0xbe, 0xde}, {16, 3}, {9, 9}} {
					head := join(fixed(byte(first), 96), bytesOf(nums(first%16)))
					beside(join(head, profile, []byte{0, byte(words)}, b, []byte{5, 2, 1}))
					beside(join(head, profile, []byte{0, byte(words)}, b))
				}
			})
		}
	}
}

func ExamplePut() {
	fmt.Println(rtp.Put(rtp.Packet{Head: rtp.Head{Seq: 5}}))
	// Output: [128 0 0 5 0 0 0 0 0 0 0 0] 0
}

func ExampleParse() {
	p, err := rtp.Parse([]byte{160, 224, 0, 5, 0, 0, 0, 0, 0, 0, 0, 7, 97, 98, 0, 2})
	fmt.Println(p.Mark, p.Type, p.Seq, p.SSRC, p.Size(), p.Payload, p.Pad, err)
	// Output: true 96 5 7 12 [97 98] 2 0
}
