package rtcp_test

import (
	"bytes"
	"fmt"
	"math"
	"math/rand/v2"
	"slices"
	"testing"

	"louver/api"
	"louver/nack"
	"louver/rtcp"
)

// run is n bytes, each of which is x.
func run(x byte, n int) []byte { return bytes.Repeat([]byte{x}, n) }

// join is bytes, one behind the other, in new memory.
func join(l ...[]byte) []byte { return slices.Concat(l...) }

// with is bytes, and some more behind them, in new memory.
func with(b []byte, more ...byte) []byte { return join(b, more) }

// head is what stands ahead of a body of so many words.
func head(first, typ byte, words int) []byte {
	return []byte{first, typ, byte(words >> 8), byte(words)}
}

// whole is a body behind its head.
func whole(first, typ byte, body ...byte) []byte {
	return join(head(first, typ, len(body)/4), body)
}

// rising are n bytes, each of which is one more than the one ahead.
func rising(from byte, n int) []byte {
	var b []byte
	for i := range n {
		b = append(b, from+byte(i))
	}
	return b
}

// reports are n of them, whose numbers have bytes that differ.
func reports(n int) []rtcp.Report {
	var l []rtcp.Report
	for i := range n {
		l = append(l, rtcp.Report{
			SSRC: 0x81828300 + uint32(i), Part: 0x84 + uint8(i), Lost: 0x858687 + uint32(i), High: 0x88898a8b,
			Jitter: 0x8c8d8e8f, Last: 0x90919293, Delay: 0x94959600 + uint32(i),
		})
	}
	return l
}

// reportsBytes are those of reports.
func reportsBytes(n int) []byte {
	var b []byte
	for i := range byte(n) {
		b = append(b, 0x81, 0x82, 0x83, i, 0x84+i, 0x85, 0x86, 0x87+i, 0x88, 0x89, 0x8a, 0x8b)
		b = append(b, 0x8c, 0x8d, 0x8e, 0x8f, 0x90, 0x91, 0x92, 0x93, 0x94, 0x95, 0x96, i)
	}
	return b
}

// nums are n numbers, each of four bytes that differ.
func nums(n int) []uint32 {
	var l []uint32
	for i := range n {
		l = append(l, 0xa1a2a300+uint32(i))
	}
	return l
}

// numsBytes are those of nums.
func numsBytes(n int) []byte {
	var b []byte
	for i := range byte(n) {
		b = append(b, 0xa1, 0xa2, 0xa3, i)
	}
	return b
}

// pairs are n of them, whose numbers have bytes that differ.
func pairs(n int) []nack.Pair {
	var l []nack.Pair
	for i := range n {
		l = append(l, nack.Pair{Pid: 0xb100 + uint16(i), Mask: 0xc200 + uint16(i)})
	}
	return l
}

// pairsBytes are those of pairs.
func pairsBytes(n int) []byte {
	var b []byte
	for _, p := range pairs(n) {
		b = append(b, byte(p.Pid>>8), byte(p.Pid), byte(p.Mask>>8), byte(p.Mask))
	}
	return b
}

// asks are n of them, whose numbers have bytes that differ.
func asks(n int) []rtcp.Ask {
	var l []rtcp.Ask
	for i := range n {
		l = append(l, rtcp.Ask{SSRC: 0xd1d2d300 + uint32(i), N: 0xe1 + uint8(i)})
	}
	return l
}

// asksBytes are those of asks.
func asksBytes(n int) []byte {
	var b []byte
	for i := range n {
		b = append(b, 0xd1, 0xd2, 0xd3, byte(i), 0xe1+byte(i), 0, 0, 0)
	}
	return b
}

// What messages have whose numbers have bytes that differ: SSRC 1 2 3 4, Media 5 6 7 8, Info 9 to 28.
const (
	ssrc  = 0x01020304
	media = 0x05060708
)

func info() rtcp.Info {
	return rtcp.Info{Clock: 0x090a0b0c0d0e0f10, Time: 0x11121314, Packets: 0x15161718, Bytes: 0x191a1b1c}
}

func senderOf(n int) rtcp.Msg {
	return rtcp.Msg{Kind: rtcp.Sender, SSRC: ssrc, Info: info(), Reports: reports(n)}
}

func senderBytes(n int) []byte {
	return whole(128+byte(n), 200, join(rising(1, 4), rising(9, 20), reportsBytes(n))...)
}

func receiverOf(n int) rtcp.Msg {
	return rtcp.Msg{Kind: rtcp.Receiver, SSRC: ssrc, Reports: reports(n)}
}

func receiverBytes(n int) []byte {
	return whole(128+byte(n), 201, join(rising(1, 4), reportsBytes(n))...)
}

func byeOf(n int) rtcp.Msg { return rtcp.Msg{Kind: rtcp.Bye, Who: nums(n)} }

func byeBytes(n int) []byte { return whole(128+byte(n), 203, numsBytes(n)...) }

func nackOf(n int) rtcp.Msg {
	return rtcp.Msg{Kind: rtcp.Nack, SSRC: ssrc, Media: media, Pairs: pairs(n)}
}

func nackBytes(n int) []byte { return whole(129, 205, join(rising(1, 8), pairsBytes(n))...) }

func pli() rtcp.Msg { return rtcp.Msg{Kind: rtcp.Pli, SSRC: ssrc, Media: media} }

func pliBytes() []byte { return whole(129, 206, rising(1, 8)...) }

func firOf(n int) rtcp.Msg {
	return rtcp.Msg{Kind: rtcp.Fir, SSRC: ssrc, Media: media, Asks: asks(n)}
}

func firBytes(n int) []byte { return whole(132, 206, join(rising(1, 8), asksBytes(n))...) }

func other(typ uint8) rtcp.Msg { return rtcp.Msg{Kind: rtcp.Other, Type: typ} }

// some is a message of each kind, with two things in it where it has a list, and its bytes.
func some() ([]rtcp.Msg, [][]byte) {
	return []rtcp.Msg{senderOf(2), receiverOf(2), byeOf(2), nackOf(2), pli(), firOf(2)},
		[][]byte{senderBytes(2), receiverBytes(2), byeBytes(2), nackBytes(2), pliBytes(), firBytes(2)}
}

// alike tells whether messages are the same; nil and empty lists are.
func alike(a, b rtcp.Msg) bool {
	return a.Kind == b.Kind && a.SSRC == b.SSRC && a.Media == b.Media && a.Info == b.Info && a.Type == b.Type &&
		slices.Equal(a.Reports, b.Reports) && slices.Equal(a.Who, b.Who) && slices.Equal(a.Pairs, b.Pairs) && slices.Equal(a.Asks, b.Asks)
}

// put puts messages, to just those bytes.
func put(t *testing.T, what string, want []byte, l ...rtcp.Msg) {
	t.Helper()
	b, err := rtcp.Put(l...)
	if !bytes.Equal(b, want) || err != api.OK {
		t.Errorf("%s: put %v, error %d, not %v", what, b, err, want)
	}
}

// putFails puts messages, to nothing but that error.
func putFails(t *testing.T, what string, want api.Errno, l ...rtcp.Msg) {
	t.Helper()
	b, err := rtcp.Put(l...)
	if len(b) != 0 || err != want {
		t.Errorf("%s: put %v, error %d, not error %d", what, b, err, want)
	}
}

// parse reads bytes, to just those messages.
func parse(t *testing.T, what string, b []byte, want ...rtcp.Msg) {
	t.Helper()
	l, err := rtcp.Parse(b)
	if !slices.EqualFunc(l, want, alike) || err != api.OK {
		t.Errorf("%s: parse of %v: %+v, error %d, not %+v", what, b, l, err, want)
	}
}

// parseFails reads bytes, to nothing but that error.
func parseFails(t *testing.T, what string, b []byte, want api.Errno) {
	t.Helper()
	l, err := rtcp.Parse(b)
	if len(l) != 0 || err != want {
		t.Errorf("%s: parse of %v: %+v, error %d, not error %d", what, b, l, err, want)
	}
}

// both puts messages to just those bytes, which are such, and parses them as they were.
func both(t *testing.T, what string, b []byte, l ...rtcp.Msg) {
	t.Helper()
	put(t, what, b, l...)
	parse(t, what, b, l...)
	if !rtcp.Is(b) {
		t.Errorf("%s: %v is none", what, b)
	}
}

func TestKinds(t *testing.T) {
	kinds := []int{rtcp.Sender, rtcp.Receiver, rtcp.Bye, rtcp.Nack, rtcp.Pli, rtcp.Fir, rtcp.Other}
	if !slices.Equal(kinds, []int{0, 1, 2, 3, 4, 5, 6}) {
		t.Errorf("kinds are %v", kinds)
	}
}

// P9.1 and P9.2, of what is put and parsed alike

func TestSender(t *testing.T) {
	both(t, "nothing", whole(128, 200, run(0, 24)...), rtcp.Msg{})
	both(t, "numbers alone", join([]byte{128, 200, 0, 6}, rising(1, 4), rising(9, 20)), senderOf(0))
	both(t, "one", join([]byte{129, 200, 0, 12, 1, 2, 3, 4}, rising(9, 20), []byte{
		0x81, 0x82, 0x83, 0, 0x84, 0x85, 0x86, 0x87, 0x88, 0x89, 0x8a, 0x8b,
		0x8c, 0x8d, 0x8e, 0x8f, 0x90, 0x91, 0x92, 0x93, 0x94, 0x95, 0x96, 0,
	}), senderOf(1))
	for n := range 32 {
		both(t, fmt.Sprint(n), senderBytes(n), senderOf(n))
	}
	highest := rtcp.Info{Clock: math.MaxUint64, Time: math.MaxUint32, Packets: math.MaxUint32, Bytes: math.MaxUint32}
	both(t, "the highest", whole(128, 200, run(255, 24)...), rtcp.Msg{Kind: rtcp.Sender, SSRC: math.MaxUint32, Info: highest})
}

func TestReceiver(t *testing.T) {
	both(t, "nothing", []byte{128, 201, 0, 1, 0, 0, 0, 0}, rtcp.Msg{Kind: rtcp.Receiver})
	both(t, "SSRC alone", []byte{128, 201, 0, 1, 1, 2, 3, 4}, receiverOf(0))
	both(t, "one", []byte{
		129, 201, 0, 7, 1, 2, 3, 4, 0x81, 0x82, 0x83, 0, 0x84, 0x85, 0x86, 0x87, 0x88, 0x89, 0x8a, 0x8b,
		0x8c, 0x8d, 0x8e, 0x8f, 0x90, 0x91, 0x92, 0x93, 0x94, 0x95, 0x96, 0,
	}, receiverOf(1))
	for n := range 32 {
		both(t, fmt.Sprint(n), receiverBytes(n), receiverOf(n))
	}
	highest := rtcp.Report{
		SSRC: math.MaxUint32, Part: 255, Lost: 16777215, High: math.MaxUint32,
		Jitter: math.MaxUint32, Last: math.MaxUint32, Delay: math.MaxUint32,
	}
	both(t, "the highest", whole(130, 201, run(255, 52)...), rtcp.Msg{Kind: rtcp.Receiver, SSRC: math.MaxUint32, Reports: []rtcp.Report{highest, highest}})
}

func TestBye(t *testing.T) {
	both(t, "none", []byte{128, 203, 0, 0}, byeOf(0))
	both(t, "an empty list", []byte{128, 203, 0, 0}, rtcp.Msg{Kind: rtcp.Bye, Who: []uint32{}})
	both(t, "one", []byte{129, 203, 0, 1, 0xa1, 0xa2, 0xa3, 0}, byeOf(1))
	both(t, "twice the same", []byte{130, 203, 0, 2, 0, 0, 0, 5, 0, 0, 0, 5}, rtcp.Msg{Kind: rtcp.Bye, Who: []uint32{5, 5}})
	for n := range 32 {
		both(t, fmt.Sprint(n), byeBytes(n), byeOf(n))
	}
}

func TestNack(t *testing.T) {
	both(t, "one of noughts", whole(129, 205, run(0, 12)...), rtcp.Msg{Kind: rtcp.Nack, Pairs: make([]nack.Pair, 1)})
	both(t, "one", []byte{129, 205, 0, 3, 1, 2, 3, 4, 5, 6, 7, 8, 0xb1, 0, 0xc2, 0}, nackOf(1))
	both(t, "two", []byte{129, 205, 0, 4, 1, 2, 3, 4, 5, 6, 7, 8, 0xb1, 0, 0xc2, 0, 0xb1, 1, 0xc2, 1}, nackOf(2))
	for n := 1; n <= 372; n++ {
		both(t, fmt.Sprint(n), nackBytes(n), nackOf(n))
	}
	both(t, "packed ones", whole(129, 205, 0, 0, 0, 1, 0, 0, 0, 2, 0, 5, 0, 5), rtcp.Msg{Kind: rtcp.Nack, SSRC: 1, Media: 2, Pairs: nack.Pack(5, 6, 8)})
}

func TestPli(t *testing.T) {
	both(t, "the chapter's", []byte{129, 206, 0, 2, 0, 0, 0, 1, 0, 0, 0, 2}, rtcp.Msg{Kind: rtcp.Pli, SSRC: 1, Media: 2})
	both(t, "nothing", []byte{129, 206, 0, 2, 0, 0, 0, 0, 0, 0, 0, 0}, rtcp.Msg{Kind: rtcp.Pli})
	both(t, "bytes that differ", []byte{129, 206, 0, 2, 1, 2, 3, 4, 5, 6, 7, 8}, pli())
	both(t, "the highest", whole(129, 206, run(255, 8)...), rtcp.Msg{Kind: rtcp.Pli, SSRC: math.MaxUint32, Media: math.MaxUint32})
}

func TestFir(t *testing.T) {
	both(t, "one of noughts", whole(132, 206, run(0, 16)...), rtcp.Msg{Kind: rtcp.Fir, Asks: make([]rtcp.Ask, 1)})
	both(t, "one", []byte{132, 206, 0, 4, 1, 2, 3, 4, 5, 6, 7, 8, 0xd1, 0xd2, 0xd3, 0, 0xe1, 0, 0, 0}, firOf(1))
	for n := 1; n <= 186; n++ {
		both(t, fmt.Sprint(n), firBytes(n), firOf(n))
	}
	both(t, "the highest", whole(132, 206, join(run(255, 13), run(0, 3))...),
		rtcp.Msg{Kind: rtcp.Fir, SSRC: math.MaxUint32, Media: math.MaxUint32, Asks: []rtcp.Ask{{SSRC: math.MaxUint32, N: 255}}})
}

// Each byte of a body, of a kind with one thing, is one number's.
func TestEachByteIsOneNumbers(t *testing.T) {
	for _, c := range []struct {
		first, typ byte
		size       int
		noughts    int // at its end
	}{{129, 200, 48, 0}, {129, 201, 28, 0}, {129, 203, 4, 0}, {129, 205, 12, 0}, {129, 206, 8, 0}, {132, 206, 16, 3}} {
		for at := range c.size {
			for _, x := range []byte{1, 128, 255} {
				body := run(0, c.size)
				body[at] = x
				b := whole(c.first, c.typ, body...)
				l, err := rtcp.Parse(b)
				if err != api.OK {
					t.Fatalf("parse of %v: error %d", b, err)
				}
				if at >= c.size-c.noughts { // plays no part
					b = whole(c.first, c.typ, run(0, c.size)...)
				}
				put(t, fmt.Sprint("byte ", at), b, l...)
			}
		}
	}
}

func TestLost(t *testing.T) {
	for _, c := range []struct {
		lost uint32
		want []byte
	}{
		{0, []byte{0, 0, 0}}, {1, []byte{0, 0, 1}}, {255, []byte{0, 0, 255}}, {256, []byte{0, 1, 0}}, {65536, []byte{1, 0, 0}},
		{16777214, []byte{255, 255, 254}}, {16777215, []byte{255, 255, 255}}, {16777216, []byte{0, 0, 0}}, {16777217, []byte{0, 0, 1}},
		{33554431, []byte{255, 255, 255}}, {33554432, []byte{0, 0, 0}}, {0x12345678, []byte{0x34, 0x56, 0x78}},
		{math.MaxUint32 - 1, []byte{255, 255, 254}}, {math.MaxUint32, []byte{255, 255, 255}},
	} {
		for _, part := range []uint8{0, 1, 255} {
			r := rtcp.Report{SSRC: 5, Part: part, Lost: c.lost, High: 6}
			rest := r
			rest.Lost = c.lost % 16777216
			report := join([]byte{0, 0, 0, 5, part}, c.want, []byte{0, 0, 0, 6}, run(0, 12))
			for _, s := range []struct {
				kind int
				b    []byte
			}{
				{rtcp.Sender, whole(129, 200, join(run(0, 24), report)...)},
				{rtcp.Receiver, whole(129, 201, join(run(0, 4), report)...)},
			} {
				put(t, fmt.Sprint(c.lost), s.b, rtcp.Msg{Kind: s.kind, Reports: []rtcp.Report{r}})
				parse(t, fmt.Sprint(c.lost), s.b, rtcp.Msg{Kind: s.kind, Reports: []rtcp.Report{rest}})
			}
		}
	}
}

func TestSeveral(t *testing.T) {
	msgs, bodies := some()
	for i, a := range msgs {
		for k, b := range msgs {
			both(t, fmt.Sprint(i, " ", k), join(bodies[i], bodies[k]), a, b)
			for m, c := range msgs {
				both(t, fmt.Sprint(i, " ", k, " ", m), join(bodies[i], bodies[k], bodies[m]), a, b, c)
			}
		}
	}
	both(t, "one of each", join(bodies...), msgs...)
	both(t, "many", bytes.Repeat(byeBytes(0), 375), slices.Repeat([]rtcp.Msg{byeOf(0)}, 375)...)
	both(t, "a short one between long ones", join(senderBytes(20), byeBytes(0), receiverBytes(20)), senderOf(20), byeOf(0), receiverOf(20))
}

// P9.1

func TestPutOfNoMessages(t *testing.T) {
	put(t, "none", nil)
	put(t, "an empty list", nil, []rtcp.Msg{}...)
}

// all is a message of a kind with all fields told.
func all(kind int) rtcp.Msg {
	return rtcp.Msg{
		Kind: kind, SSRC: ssrc, Media: media, Info: info(), Reports: reports(2), Who: nums(2), Pairs: pairs(2), Asks: asks(2), Type: 202,
	}
}

func TestPutOfNoKind(t *testing.T) {
	for _, kind := range []int{-1, 6, 7, -2, 8, 200, 201, 203, 205, 206, 255, 256, -256, 1 << 32, -1 << 32, math.MaxInt, math.MinInt} {
		putFails(t, fmt.Sprint("nothing of kind ", kind), api.ErrArg, rtcp.Msg{Kind: kind})
		putFails(t, fmt.Sprint("all of kind ", kind), api.ErrArg, all(kind))
	}
	for kind := range 6 {
		if b, err := rtcp.Put(all(kind)); len(b) == 0 || err != api.OK {
			t.Errorf("kind %d: put %v, error %d", kind, b, err)
		}
	}
}

func TestPutOfTooMany(t *testing.T) {
	for _, n := range []int{32, 33, 63, 64, 96, 128, 256, 287, 1000} {
		putFails(t, fmt.Sprint(n, " of a Sender"), api.ErrArg, senderOf(n))
		putFails(t, fmt.Sprint(n, " of a Receiver"), api.ErrArg, receiverOf(n))
		putFails(t, fmt.Sprint(n, " of a Bye"), api.ErrArg, byeOf(n))
	}
	for _, m := range []rtcp.Msg{senderOf(31), receiverOf(31), byeOf(31)} {
		if b, err := rtcp.Put(m); len(b) == 0 || err != api.OK {
			t.Errorf("31 of kind %d: put %v, error %d", m.Kind, b, err)
		}
	}
}

func TestPutOfNothingAskedFor(t *testing.T) {
	for _, kind := range []int{rtcp.Nack, rtcp.Fir} {
		putFails(t, fmt.Sprint("nothing of kind ", kind), api.ErrArg, rtcp.Msg{Kind: kind})
		m := all(kind)
		if kind == rtcp.Nack { // an other kind's things are none
			m.Pairs = nil
		} else {
			m.Asks = nil
		}
		putFails(t, fmt.Sprint("others' things of kind ", kind), api.ErrArg, m)
		m.Pairs, m.Asks = []nack.Pair{}, []rtcp.Ask{}
		putFails(t, fmt.Sprint("empty lists of kind ", kind), api.ErrArg, m)
	}
}

func TestFieldsThatPlayNoPart(t *testing.T) {
	msgs, bodies := some()
	named := []func(m *rtcp.Msg, all rtcp.Msg){
		rtcp.Sender:   func(m *rtcp.Msg, all rtcp.Msg) { m.SSRC, m.Info, m.Reports = all.SSRC, all.Info, all.Reports },
		rtcp.Receiver: func(m *rtcp.Msg, all rtcp.Msg) { m.SSRC, m.Reports = all.SSRC, all.Reports },
		rtcp.Bye:      func(m *rtcp.Msg, all rtcp.Msg) { m.Who = all.Who },
		rtcp.Nack:     func(m *rtcp.Msg, all rtcp.Msg) { m.SSRC, m.Media, m.Pairs = all.SSRC, all.Media, all.Pairs },
		rtcp.Pli:      func(m *rtcp.Msg, all rtcp.Msg) { m.SSRC, m.Media = all.SSRC, all.Media },
		rtcp.Fir:      func(m *rtcp.Msg, all rtcp.Msg) { m.SSRC, m.Media, m.Asks = all.SSRC, all.Media, all.Asks },
	}
	for kind, m := range msgs {
		put(t, fmt.Sprint("all fields of kind ", kind), bodies[kind], all(kind))
		parse(t, fmt.Sprint("kind ", kind), bodies[kind], m)
		many := rtcp.Msg{
			Kind: kind, SSRC: 9, Media: 9, Info: rtcp.Info{Clock: 9, Time: 9, Packets: 9, Bytes: 9},
			Reports: reports(1000), Who: nums(1000), Pairs: pairs(1000), Asks: asks(1000), Type: 255,
		}
		named[kind](&many, m)
		put(t, fmt.Sprint("very many things that play no part, of kind ", kind), bodies[kind], many)
		none := rtcp.Msg{Kind: kind}
		named[kind](&none, m)
		put(t, fmt.Sprint("nothing that plays no part, of kind ", kind), bodies[kind], none)
	}
	put(t, "a Pli of 32 Reports", pliBytes(), rtcp.Msg{Kind: rtcp.Pli, SSRC: ssrc, Media: media, Reports: reports(32), Who: nums(32)})
	put(t, "a Sender of 32 Who", whole(128, 200, run(0, 24)...), rtcp.Msg{Kind: rtcp.Sender, Who: nums(32)})
	put(t, "a Bye of 32 Reports", byeBytes(0), rtcp.Msg{Kind: rtcp.Bye, Reports: reports(32)})
}

func TestPutOfMostBytes(t *testing.T) {
	for _, c := range []struct {
		what string
		l    []rtcp.Msg
		size int
	}{
		{"a Nack", []rtcp.Msg{nackOf(372)}, 1500},
		{"a greater Nack", []rtcp.Msg{nackOf(373)}, 1504},
		{"a very great Nack", []rtcp.Msg{nackOf(5000)}, 20012},
		{"a Nack whose words go round", []rtcp.Msg{nackOf(65536)}, 262156},
		{"a Fir", []rtcp.Msg{firOf(186)}, 1500},
		{"a greater Fir", []rtcp.Msg{firOf(187)}, 1508},
		{"a Fir whose words go round", []rtcp.Msg{firOf(32768)}, 262156},
		{"two of them", []rtcp.Msg{senderOf(31), receiverOf(29)}, 1476},
		{"two of them, and a Bye of 5", []rtcp.Msg{senderOf(31), receiverOf(29), byeOf(5)}, 1500},
		{"two of them, and a Bye of 6", []rtcp.Msg{senderOf(31), receiverOf(29), byeOf(6)}, 1504},
		{"two of them, and two Byes of none", []rtcp.Msg{senderOf(31), byeOf(4), receiverOf(29), byeOf(0)}, 1500},
		{"two of them, and three Byes of none", []rtcp.Msg{senderOf(31), byeOf(4), receiverOf(29), byeOf(0), byeOf(0)}, 1504},
		{"as many Byes as may be", slices.Repeat([]rtcp.Msg{byeOf(0)}, 375), 1500},
		{"one more", slices.Repeat([]rtcp.Msg{byeOf(0)}, 376), 1504},
		{"as many Plis as may be", slices.Repeat([]rtcp.Msg{pli()}, 125), 1500},
		{"one Pli more", slices.Repeat([]rtcp.Msg{pli()}, 126), 1512},
		{"very many", slices.Repeat([]rtcp.Msg{pli()}, 30000), 360000},
		{"many Senders", slices.Repeat([]rtcp.Msg{senderOf(31)}, 2), 1544},
	} {
		if c.size > 1500 {
			putFails(t, c.what, api.ErrBig, c.l...)
			continue
		}
		b, err := rtcp.Put(c.l...)
		if len(b) != c.size || err != api.OK {
			t.Errorf("%s: %d bytes, error %d, not %d", c.what, len(b), err, c.size)
		}
		parse(t, c.what, b, c.l...)
	}
}

func TestPutTellsTheFirstError(t *testing.T) {
	wrongs := []rtcp.Msg{
		{Kind: -1}, {Kind: 6}, {Kind: 7}, senderOf(32), receiverOf(32), byeOf(32), {Kind: rtcp.Nack}, {Kind: rtcp.Fir},
		senderOf(100), receiverOf(100), byeOf(400), // too many bytes too
		{Kind: -1, Pairs: pairs(400)}, {Kind: 6, Asks: asks(400)},
		{Kind: rtcp.Nack, Asks: asks(400)}, {Kind: rtcp.Fir, Pairs: pairs(400)},
	}
	for i, wrong := range wrongs {
		what := fmt.Sprint("wrong ", i)
		putFails(t, what, api.ErrArg, wrong)
		for _, good := range []rtcp.Msg{pli(), senderOf(31), byeOf(0)} {
			putFails(t, what+" ahead of a good one", api.ErrArg, wrong, good)
			putFails(t, what+" behind a good one", api.ErrArg, good, wrong)
			putFails(t, what+" between good ones", api.ErrArg, good, wrong, good)
		}
		for _, big := range []rtcp.Msg{nackOf(373), firOf(500)} {
			putFails(t, what+" ahead of too many bytes", api.ErrArg, wrong, big)
			putFails(t, what+" behind too many bytes", api.ErrArg, big, wrong)
		}
		putFails(t, what+" behind messages of too many bytes in all", api.ErrArg, append(slices.Repeat([]rtcp.Msg{pli()}, 200), wrong)...)
		for _, other := range wrongs {
			putFails(t, what+", and one more", api.ErrArg, wrong, other)
		}
	}
}

func TestPutTellsNewMemory(t *testing.T) {
	msgs, bodies := some()
	was := join(bodies...)
	l := append(make([]rtcp.Msg, 0, 8), msgs...)
	l[0].Reports = append(make([]rtcp.Report, 0, 8), l[0].Reports...)
	l[2].Who = append(make([]uint32, 0, 8), l[2].Who...)
	l[3].Pairs = append(make([]nack.Pair, 0, 8), l[3].Pairs...)
	l[5].Asks = append(make([]rtcp.Ask, 0, 8), l[5].Asks...)
	b, _ := rtcp.Put(l...)
	for i := range b[:cap(b)] {
		b[:cap(b)][i] = 77
	}
	if !slices.EqualFunc(l, msgs, alike) || !alike(l[:7][6], rtcp.Msg{}) || l[0].Reports[:3][2] != (rtcp.Report{}) ||
		l[2].Who[:3][2] != 0 || l[3].Pairs[:3][2] != (nack.Pair{}) || l[5].Asks[:3][2] != (rtcp.Ask{}) {
		t.Errorf("what was handed in was changed: %+v", l)
	}
	put(t, "again", was, l...)
	b, _ = rtcp.Put(l...)
	c, _ := rtcp.Put(l...)
	b[5] = 88
	l[0].Reports[0].SSRC, l[1].Reports[1].Delay, l[2].Who[0], l[3].Pairs[0].Pid, l[5].Asks[1].N = 8, 8, 8, 8, 8
	l[4] = rtcp.Msg{}
	if !bytes.Equal(c, was) {
		t.Errorf("what was handed in was written over: %v, not %v", c, was)
	}
}

// P9.2

func TestIs(t *testing.T) {
	is := func(want bool, b ...byte) {
		t.Helper()
		if rtcp.Is(b) != want {
			t.Errorf("is %v one: %v, not %v", b, !want, want)
		}
	}
	is(false)
	if rtcp.Is(nil) || rtcp.Is([]byte{}) {
		t.Error("nothing is one")
	}
	for x := range 256 {
		is(false, byte(x))
	}
	for first := range 256 {
		for typ := range 256 {
			want := first >= 128 && first < 192 && typ >= 192 && typ < 224
			is(want, byte(first), byte(typ))
			is(want, byte(first), byte(typ), 0)
			is(want, byte(first), byte(typ), 255, 255) // though words are missing
			is(want, join([]byte{byte(first), byte(typ)}, run(200, 3000))...)
		}
	}
	is(true, 128, 192)
	is(true, 191, 223)
	is(false, 127, 192)
	is(false, 192, 223)
	is(false, 128, 191)
	is(false, 191, 224)
	is(false, 0, 128, 200, 0)
}

func TestParseOfNoBytes(t *testing.T) {
	parseFails(t, "nil", nil, api.ErrShort)
	parseFails(t, "none", []byte{}, api.ErrShort)
}

// Fewer than four bytes are too few, whatever they are, and whatever stands ahead of them.
func TestParseOfFewerThanFourBytes(t *testing.T) {
	for _, first := range []byte{0, 127, 128, 160, 191, 192, 255} {
		for _, typ := range []byte{0, 191, 192, 200, 203, 223, 224, 255} {
			for n := 1; n < 4; n++ {
				b := []byte{first, typ, 0}[:n]
				parseFails(t, "alone", b, api.ErrShort)
				msgs, bodies := some()
				for kind := range msgs {
					parseFails(t, fmt.Sprint("behind kind ", kind), join(bodies[kind], b), api.ErrShort)
				}
				parseFails(t, "behind no kind", join([]byte{128, 202, 0, 0}, b), api.ErrShort)
			}
		}
	}
}

func TestParseOfEachHead(t *testing.T) {
	for first := range 256 {
		for typ := range 256 {
			for _, words := range []int{0, 1, 65535} {
				b := head(byte(first), byte(typ), words)
				if first < 128 || first > 191 || typ < 192 || typ > 223 { // told ahead of words that are missing
					parseFails(t, "no message", b, api.ErrForm)
					parseFails(t, "no message, behind one", join(pliBytes(), b), api.ErrForm)
					parseFails(t, "no message, of many bytes", join(b, run(8, 1496)), api.ErrForm)
				} else if words > 0 {
					parseFails(t, "no words", b, api.ErrShort)
					parseFails(t, "no words, behind a message", join(pliBytes(), b), api.ErrShort)
				}
			}
		}
	}
	for _, c := range []struct {
		what  string
		first byte
		typ   byte
	}{{"first byte 127", 127, 203}, {"first byte 192", 192, 203}, {"type 191", 128, 191}, {"type 224", 128, 224}, {"both", 127, 224}} {
		parseFails(t, c.what, head(c.first, c.typ, 0), api.ErrForm)
		parseFails(t, c.what+", and a body", whole(c.first, c.typ, run(4, 60)...), api.ErrForm)
	}
	parse(t, "first byte 128", whole(128, 203), byeOf(0))
	parse(t, "first byte 159", byeBytes(31), byeOf(31))
	parse(t, "first byte 160", with(head(160, 203, 1), 0, 0, 0, 4), byeOf(0))
	parse(t, "first byte 191", join(head(191, 203, 32), numsBytes(31), []byte{9, 9, 9, 4}), byeOf(31))
	parse(t, "type 192", whole(128, 192), other(192))
	parse(t, "type 223", whole(128, 223), other(223))
}

func TestParseOfMissingWords(t *testing.T) {
	msgs, bodies := some()
	for kind, b := range bodies {
		for n := range b {
			if n == 0 {
				continue
			}
			parseFails(t, fmt.Sprint(n, " bytes of kind ", kind), b[:n], api.ErrShort)
			parseFails(t, fmt.Sprint(n, " bytes of kind ", kind, ", behind one"), join(pliBytes(), b[:n]), api.ErrShort)
		}
		for _, more := range []int{1, 2, 100, 256} {
			words := len(b)/4 - 1 + more
			long := join(head(b[0], b[1], words), b[4:])
			parseFails(t, fmt.Sprint(more, " words too few of kind ", kind), long, api.ErrShort)
			parseFails(t, "as well, with padding", join(head(b[0]+32, b[1], words), b[4:]), api.ErrShort)
			parseFails(t, "three bytes more", with(long, run(4, 4*more-1)...), api.ErrShort)
		}
		parse(t, "all of it", b, msgs[kind])
	}
	parseFails(t, "very many words", join(head(128, 200, 65535), run(0, 1496)), api.ErrShort)
	parseFails(t, "375 words", join(head(128, 202, 375), run(0, 1496)), api.ErrShort)
	parse(t, "374 words", join(head(128, 202, 374), run(0, 1496)), other(202))
	parse(t, "words of two bytes", join(head(128, 202, 0x0101), run(0, 0x0404)), other(202))
}

// What stands behind as much as the count asks for plays no part.
func TestParseOfEachCount(t *testing.T) {
	for _, c := range []struct {
		typ   byte
		msg   func(n int) rtcp.Msg
		bytes func(n int) []byte
		own   int // without what is counted
		each  int
	}{{200, senderOf, senderBytes, 24, 24}, {201, receiverOf, receiverBytes, 4, 24}, {203, byeOf, byeBytes, 0, 4}} {
		for count := range 32 {
			need := c.own + count*c.each
			body := with(c.bytes(count)[4:], run(240, 64)...)
			for size := 0; size <= need+64; size += 4 {
				first := 128 + byte(count)
				b := whole(first, c.typ, body[:size]...)
				padded := whole(first+32, c.typ, with(body[:size], 1, 2, 3, 4)...)
				what := fmt.Sprint("type ", c.typ, ", count ", count, ", ", size, " bytes")
				if size < need {
					parseFails(t, what, b, api.ErrShort)
					parseFails(t, what+", padded", padded, api.ErrShort)
					parseFails(t, what+", a message behind", join(b, pliBytes()), api.ErrShort)
					continue
				}
				want := c.msg(count)
				parse(t, what, b, want)
				parse(t, what+", padded", padded, want)
				parse(t, what+", a message behind", join(b, pliBytes()), want, pli())
			}
		}
	}
}

func TestParseOfPairs(t *testing.T) {
	body := nackBytes(20)[4:]
	for size := 0; size <= len(body); size += 4 {
		what := fmt.Sprint(size, " bytes")
		b := whole(129, 205, body[:size]...)
		padded := whole(161, 205, with(body[:size], 0, 0, 0, 4)...)
		switch {
		case size < 8:
			parseFails(t, what, b, api.ErrShort)
			parseFails(t, what+", padded", padded, api.ErrShort)
			parseFails(t, what+", a message behind", join(b, pliBytes()), api.ErrShort)
		case size == 8:
			parseFails(t, what, b, api.ErrForm)
			parseFails(t, what+", padded", padded, api.ErrForm)
			parseFails(t, what+", a message behind", join(b, pliBytes()), api.ErrForm)
		default:
			parse(t, what, b, nackOf(size/4-2))
			parse(t, what+", padded", padded, nackOf(size/4-2))
			parse(t, what+", a message behind", join(b, pliBytes()), nackOf(size/4-2), pli())
		}
	}
}

func TestParseOfAsks(t *testing.T) {
	body := firBytes(20)[4:]
	for size := 0; size <= len(body); size += 4 {
		what := fmt.Sprint(size, " bytes")
		b := whole(132, 206, body[:size]...)
		padded := whole(164, 206, with(body[:size], 0, 0, 0, 4)...)
		switch {
		case size < 8:
			parseFails(t, what, b, api.ErrShort)
			parseFails(t, what+", padded", padded, api.ErrShort)
			parseFails(t, what+", a message behind", join(b, pliBytes()), api.ErrShort)
		case size < 16:
			parseFails(t, what, b, api.ErrForm)
			parseFails(t, what+", padded", padded, api.ErrForm)
			parseFails(t, what+", a message behind", join(b, pliBytes()), api.ErrForm)
		default:
			parse(t, what, b, firOf((size-8)/8))
			parse(t, what+", padded", padded, firOf((size-8)/8))
			parse(t, what+", a message behind", join(b, pliBytes()), firOf((size-8)/8), pli())
		}
	}
	parse(t, "what stands where noughts do", whole(132, 206, join(rising(1, 8), []byte{0xd1, 0xd2, 0xd3, 0, 0xe1, 7, 8, 9}, asksBytes(2)[8:], rising(60, 4))...), firOf(2))
}

func TestParseOfAPli(t *testing.T) {
	for size := 0; size <= 40; size += 4 {
		b := whole(129, 206, rising(1, size)...)
		padded := whole(161, 206, with(rising(1, size), 0, 0, 0, 4)...)
		if size < 8 {
			parseFails(t, fmt.Sprint(size), b, api.ErrShort)
			parseFails(t, fmt.Sprint(size, ", padded"), padded, api.ErrShort)
			continue
		}
		parse(t, fmt.Sprint(size), b, pli())
		parse(t, fmt.Sprint(size, ", padded"), padded, pli())
		parse(t, fmt.Sprint(size, ", a message behind"), join(b, byeBytes(1)), pli(), byeOf(1))
	}
}

// What is of no other kind is Other, whatever its body is.
func TestParseOfOthers(t *testing.T) {
	isOther := func(typ, count int) bool {
		switch typ {
		case 200, 201, 203:
			return false
		case 205:
			return count != 1
		case 206:
			return count != 1 && count != 4
		}
		return true
	}
	for typ := 192; typ < 224; typ++ {
		for count := range 32 {
			if !isOther(typ, count) {
				continue
			}
			want := other(uint8(typ))
			for _, body := range [][]byte{nil, run(0, 4), run(255, 4), rising(1, 8), rising(1, 12), run(3, 16), run(200, 400)} {
				b := whole(128+byte(count), byte(typ), body...)
				what := fmt.Sprint("type ", typ, ", count ", count, ", ", len(body), " bytes")
				parse(t, what, b, want)
				parse(t, what+", a message behind", join(b, pliBytes()), want, pli())
				parse(t, what+", between messages", join(byeBytes(2), b, nackBytes(1)), byeOf(2), want, nackOf(1))
				parse(t, what+", padded", whole(160+byte(count), byte(typ), with(body, 9, 9, 9, 4)...), want)
				if len(body) > 0 {
					parseFails(t, what+", one word missing", b[:len(b)-4], api.ErrShort)
				}
			}
			parseFails(t, "padding of no body", whole(160+byte(count), byte(typ)), api.ErrForm)
			parseFails(t, "padding of 0", whole(160+byte(count), byte(typ), 4, 4, 4, 0), api.ErrForm)
			parseFails(t, "padding of 3", whole(160+byte(count), byte(typ), 4, 4, 4, 3), api.ErrForm)
			parseFails(t, "padding of 8", whole(160+byte(count), byte(typ), 4, 4, 4, 8), api.ErrForm)
			parseFails(t, "padding ahead of a message", with(whole(160+byte(count), byte(typ), 0, 0, 0, 4), byeBytes(0)...), api.ErrForm)
		}
	}
}

func TestParseOfPadding(t *testing.T) {
	for size := 4; size <= 280; size += 4 {
		for last := range 256 {
			body := run(7, size)
			body[size-1] = byte(last)
			b := whole(160, 203, body...)
			if last == 0 || last%4 != 0 || last > size {
				parseFails(t, fmt.Sprint(size, ", last ", last), b, api.ErrForm)
				parseFails(t, "behind a message", join(pliBytes(), b), api.ErrForm)
				continue
			}
			parse(t, fmt.Sprint(size, ", last ", last), b, byeOf(0))
			parse(t, "behind a message", join(pliBytes(), b), pli(), byeOf(0))
		}
	}
	parseFails(t, "a message without a body", whole(160, 203), api.ErrForm)
	parseFails(t, "a message without a body, behind one", join(pliBytes(), whole(160, 203)), api.ErrForm)
	parseFails(t, "the last byte of the message ahead isn't one of a body", join(byeBytes(0), whole(129, 206, 0, 0, 0, 0, 0, 0, 0, 4), whole(160, 203)), api.ErrForm)
	parse(t, "without it a last byte of 4 is the body's", whole(129, 203, 0, 0, 0, 4), rtcp.Msg{Kind: rtcp.Bye, Who: []uint32{4}})
	parse(t, "without it a last byte of 3 is too", whole(129, 203, 0, 0, 0, 3), rtcp.Msg{Kind: rtcp.Bye, Who: []uint32{3}})
	parse(t, "what is ahead of the count plays no part", whole(161, 203, 0, 0, 0, 5, 1, 2, 3, 4, 5, 6, 7, 8), rtcp.Msg{Kind: rtcp.Bye, Who: []uint32{5}})
	parse(t, "pairs end ahead of it", whole(161, 205, join(rising(1, 8), pairsBytes(3), []byte{0, 0, 0, 0, 0, 0, 0, 8})...), nackOf(3))
	parse(t, "asks end ahead of it", whole(164, 206, join(rising(1, 8), asksBytes(3), []byte{0, 0, 0, 4})...), firOf(3))
	parseFails(t, "an ask that is part of it", whole(164, 206, join(rising(1, 8), []byte{1, 2, 3, 4, 0, 0, 0, 4})...), api.ErrForm)
}

// Padding cuts each kind's body to what it needs, and below it.
func TestParseOfPaddingThatCuts(t *testing.T) {
	msgs, bodies := some()
	for kind, b := range bodies {
		body := b[4:]
		for pad := 4; pad < 256; pad += 4 {
			parse(t, fmt.Sprint(pad, " of kind ", kind), whole(b[0]+32, b[1], join(body, run(9, pad-1), []byte{byte(pad)})...), msgs[kind])
			parse(t, "behind a message", join(bodies[2], whole(b[0]+32, b[1], join(body, run(9, pad-1), []byte{byte(pad)})...)), msgs[2], msgs[kind])
			if pad > len(body) {
				continue
			}
			cut := slices.Clone(body)
			cut[len(cut)-1] = byte(pad)
			left := len(cut) - pad
			what := fmt.Sprint(left, " left of kind ", kind)
			switch padded := whole(b[0]+32, b[1], cut...); {
			case kind == rtcp.Nack && left > 8:
				parse(t, what, padded, nackOf((left-8)/4))
			case kind == rtcp.Fir && left > 12:
				parse(t, what, padded, firOf((left-8)/8))
			case (kind == rtcp.Nack || kind == rtcp.Fir) && left >= 8:
				parseFails(t, what, padded, api.ErrForm)
			default:
				parseFails(t, what, padded, api.ErrShort)
			}
		}
	}
}

// Just the last message may have padding.
func TestParseOfPaddingWithin(t *testing.T) {
	msgs, bodies := some()
	for kind, b := range bodies {
		padded := whole(b[0]+32, b[1], with(b[4:], 0, 0, 0, 4)...)
		parse(t, "the last one", join(pliBytes(), padded), pli(), msgs[kind])
		for k, other := range bodies {
			parseFails(t, fmt.Sprint("kind ", kind, " ahead of kind ", k), join(padded, other), api.ErrForm)
			parseFails(t, "between two", join(other, padded, other), api.ErrForm)
			parseFails(t, "both have it", join(padded, whole(other[0]+32, other[1], with(other[4:], 0, 0, 0, 4)...)), api.ErrForm)
		}
		parseFails(t, "ahead of one without a body", join(padded, byeBytes(0)), api.ErrForm)
		for n := 1; n < 4; n++ {
			parseFails(t, "ahead of bytes that are too few", join(padded, run(128, n)), api.ErrForm)
		}
	}
}

func TestParseOfMostBytes(t *testing.T) {
	parse(t, "1500 of pairs", nackBytes(372), nackOf(372))
	parse(t, "1500 of no kind", whole(128, 204, run(9, 1496)...), other(204))
	parse(t, "1500 of many", bytes.Repeat(pliBytes(), 125), slices.Repeat([]rtcp.Msg{pli()}, 125)...)
	parseFails(t, "1499, a word too few", nackBytes(372)[:1499], api.ErrShort)
	parseFails(t, "1500, three bytes left", with(nackBytes(371), nackBytes(1)[:3]...), api.ErrShort)
	for _, first := range []byte{0, 127, 128, 129, 160, 191, 192, 255} {
		for _, n := range []int{1501, 1502, 1503, 1504, 3000, 70000} {
			parseFails(t, fmt.Sprint(n), join(head(first, 204, 0), run(0, n-4)), api.ErrBig)
		}
	}
	parseFails(t, "one byte more", with(nackBytes(372), 128), api.ErrBig)
	parseFails(t, "one message more", join(nackBytes(372), byeBytes(0)), api.ErrBig)
	parseFails(t, "one pair more", nackBytes(373), api.ErrBig)
	parseFails(t, "noughts", run(0, 1501), api.ErrBig)
	parseFails(t, "1500 noughts", run(0, 1500), api.ErrForm)
}

// Messages are read one by one: what is wrong with the first one is told; of one, what the promise names first.
func TestParseTellsTheFirstError(t *testing.T) {
	wrongs := []struct {
		what string
		b    []byte
		err  api.Errno
	}{
		{"first byte 127", whole(127, 206, rising(1, 8)...), api.ErrForm},
		{"type 224", whole(129, 224, rising(1, 8)...), api.ErrForm},
		{"a Pli without Media", whole(129, 206, rising(1, 4)...), api.ErrShort},
		{"a Sender of too few", whole(129, 200, rising(1, 24)...), api.ErrShort},
		{"a Bye of too few", whole(129, 203), api.ErrShort},
		{"a Nack without pairs", whole(129, 205, rising(1, 8)...), api.ErrForm},
		{"a Nack without Media", whole(129, 205, rising(1, 4)...), api.ErrShort},
		{"a Fir without asks", whole(132, 206, rising(1, 12)...), api.ErrForm},
		{"padding of 0", whole(161, 206, run(0, 12)...), api.ErrForm},
		{"padding of no body", whole(161, 206), api.ErrForm},
	}
	for _, c := range wrongs {
		parseFails(t, c.what, c.b, c.err)
		parseFails(t, c.what+", behind a message", join(pliBytes(), c.b), c.err)
		parseFails(t, c.what+", ahead of a message", join(c.b, pliBytes()), c.err)
		parseFails(t, c.what+", ahead of one byte", with(c.b, 5), c.err)
		for _, d := range wrongs {
			parseFails(t, c.what+", ahead of "+d.what, join(c.b, d.b), c.err)
		}
		parseFails(t, c.what+", of too many bytes", join(c.b, run(0, 1500)), api.ErrBig)
	}
	parseFails(t, "no message, and words that are missing", head(127, 206, 5), api.ErrForm)
	parseFails(t, "no type, and words that are missing", head(129, 191, 5), api.ErrForm)
	parseFails(t, "no message, and bytes that are missing", head(127, 206, 5)[:3], api.ErrShort)
	parseFails(t, "padding of no body, and words that are missing", head(161, 206, 5), api.ErrShort)
	parseFails(t, "padding of 0, and words that are missing", with(head(161, 206, 2), 0, 0, 0, 0), api.ErrShort)
	parseFails(t, "padding of 0, and too few bytes", whole(161, 206, 0, 0, 0, 0), api.ErrForm)
	parseFails(t, "padding of more than there is, and too few bytes", whole(161, 206, 0, 0, 0, 8), api.ErrForm)
	parseFails(t, "padding within, and too few bytes", join(whole(161, 206, 0, 0, 0, 4), pliBytes()), api.ErrForm)
	parseFails(t, "padding, and then too few bytes", whole(161, 206, 0, 0, 0, 4), api.ErrShort)
	parseFails(t, "padding, and then too few of a Nack", whole(161, 205, 0, 0, 0, 0, 0, 0, 0, 4), api.ErrShort)
	parseFails(t, "padding, and then no pairs of a Nack", whole(161, 205, 0, 0, 0, 0, 0, 0, 0, 0, 0, 0, 0, 4), api.ErrForm)
}

func TestParseTellsNewMemory(t *testing.T) {
	msgs, bodies := some()
	was := join(bodies...)
	b := append(make([]byte, 0, len(was)+20), was...)
	l, err := rtcp.Parse(b)
	if err != api.OK || !bytes.Equal(b, was) || !bytes.Equal(b[:cap(b)][len(b):], run(0, cap(b)-len(b))) {
		t.Errorf("what was handed in was changed: %v, error %d", b[:cap(b)], err)
	}
	for i := range b {
		b[i] = 77
	}
	if !slices.EqualFunc(l, msgs, alike) {
		t.Errorf("what was handed in was written over: %+v, not %+v", l, msgs)
	}
	copy(b, was)
	l, _ = rtcp.Parse(b)
	again, _ := rtcp.Parse(b)
	l[0].Reports[0].SSRC, l[2].Who[0], l[3].Pairs[0].Pid, l[5].Asks[0].N = 8, 8, 8, 8
	_, _ = append(l[0].Reports, rtcp.Report{SSRC: 8}), append(l[2].Who, 8)
	_, _, _ = append(l[3].Pairs, nack.Pair{Pid: 8}), append(l[5].Asks, rtcp.Ask{N: 8}), append(l, rtcp.Msg{Kind: 8})
	if !bytes.Equal(b, was) || !slices.EqualFunc(again, msgs, alike) || !alike(l[1], msgs[1]) || !alike(l[4], msgs[4]) {
		t.Errorf("what was told was written over: %v, %+v, %+v", b, again, l)
	}
	parse(t, "again", b, msgs...)
}

// P9.3

// someOf is a message by chance.
func someOf(chance *rand.Rand) rtcp.Msg {
	num := func() uint32 { return chance.Uint32() >> (8 * chance.IntN(5)) }
	m := rtcp.Msg{Kind: chance.IntN(6), SSRC: num(), Media: num(), Type: uint8(num())}
	m.Info = rtcp.Info{Clock: chance.Uint64(), Time: num(), Packets: num(), Bytes: num()}
	for range chance.IntN(40) {
		m.Reports = append(m.Reports, rtcp.Report{SSRC: num(), Part: uint8(num()), Lost: num(), High: num(), Jitter: num(), Last: num(), Delay: num()})
	}
	for range chance.IntN(40) {
		m.Who = append(m.Who, num())
		m.Pairs = append(m.Pairs, nack.Pair{Pid: uint16(num()), Mask: uint16(num())})
	}
	for range chance.IntN(30) {
		m.Asks = append(m.Asks, rtcp.Ask{SSRC: num(), N: uint8(num())})
	}
	return m
}

// told is as much of a message as its kind names, each Lost its rest.
func told(m rtcp.Msg) rtcp.Msg {
	w := rtcp.Msg{Kind: m.Kind}
	if m.Kind != rtcp.Bye {
		w.SSRC = m.SSRC
	}
	switch m.Kind {
	case rtcp.Sender, rtcp.Receiver:
		w.Reports = slices.Clone(m.Reports)
		for i := range w.Reports {
			w.Reports[i].Lost %= 16777216
		}
	case rtcp.Bye:
		w.Who = m.Who
	case rtcp.Nack:
		w.Media, w.Pairs = m.Media, m.Pairs
	case rtcp.Pli:
		w.Media = m.Media
	case rtcp.Fir:
		w.Media, w.Asks = m.Media, m.Asks
	}
	if m.Kind == rtcp.Sender {
		w.Info = m.Info
	}
	return w
}

func TestWhatIsPutIsParsed(t *testing.T) {
	chance := rand.New(rand.NewPCG(9, 3))
	good := 0
	for range 20000 {
		var l, want []rtcp.Msg
		for range 1 + chance.IntN(5) {
			m := someOf(chance)
			l, want = append(l, m), append(want, told(m))
		}
		b, err := rtcp.Put(l...)
		if wrote, e := plainPut(l); !bytes.Equal(b, wrote) || err != e {
			t.Fatalf("put of %+v: %v, error %d, not %v, error %d", l, b, err, wrote, e)
		}
		if err == api.OK {
			good++
			parse(t, "what was put", b, want...)
		}
	}
	if good < 5000 {
		t.Errorf("just %d were put", good)
	}
}

// plainPut puts messages by the chapter's words, beside what the package does.
func plainPut(l []rtcp.Msg) ([]byte, api.Errno) {
	var all []byte
	for _, m := range l {
		var b []byte
		num := func(x uint32) { b = append(b, byte(x/16777216), byte(x/65536%256), byte(x/256%256), byte(x%256)) }
		reports := func() {
			for _, r := range m.Reports {
				num(r.SSRC)
				num(uint32(r.Part)*16777216 + r.Lost%16777216)
				num(r.High)
				num(r.Jitter)
				num(r.Last)
				num(r.Delay)
			}
		}
		typ, count := 0, 0
		if m.Kind != rtcp.Bye {
			num(m.SSRC)
		}
		switch m.Kind {
		case rtcp.Sender:
			typ, count = 200, len(m.Reports)
			num(uint32(m.Info.Clock >> 32))
			num(uint32(m.Info.Clock))
			num(m.Info.Time)
			num(m.Info.Packets)
			num(m.Info.Bytes)
			reports()
		case rtcp.Receiver:
			typ, count = 201, len(m.Reports)
			reports()
		case rtcp.Bye:
			typ, count = 203, len(m.Who)
			for _, x := range m.Who {
				num(x)
			}
		case rtcp.Nack:
			typ, count = 205, 1
			num(m.Media)
			for _, p := range m.Pairs {
				num(uint32(p.Pid)*65536 + uint32(p.Mask))
			}
		case rtcp.Pli:
			typ, count = 206, 1
			num(m.Media)
		case rtcp.Fir:
			typ, count = 206, 4
			num(m.Media)
			for _, a := range m.Asks {
				num(a.SSRC)
				num(uint32(a.N) * 16777216)
			}
		}
		if typ == 0 || count > 31 || m.Kind == rtcp.Nack && len(m.Pairs) == 0 || m.Kind == rtcp.Fir && len(m.Asks) == 0 {
			return nil, api.ErrArg
		}
		all = join(all, head(byte(128+count), byte(typ), len(b)/4), b)
	}
	if len(all) > 1500 {
		return nil, api.ErrBig
	}
	return all, api.OK
}

// plain reads bytes by places, beside what the package does.
func plain(b []byte) ([]rtcp.Msg, api.Errno) {
	if len(b) > 1500 {
		return nil, api.ErrBig
	}
	if len(b) == 0 {
		return nil, api.ErrShort
	}
	var l []rtcp.Msg
	for at := 0; at < len(b); {
		if at+4 > len(b) {
			return nil, api.ErrShort
		}
		first, typ, size := b[at], b[at+1], 4*(256*int(b[at+2])+int(b[at+3]))
		if first>>6 != 2 || typ>>5 != 6 {
			return nil, api.ErrForm
		}
		at += 4
		if at+size > len(b) {
			return nil, api.ErrShort
		}
		body := b[at : at+size]
		at += size
		if first/32%2 == 1 {
			if at < len(b) || size == 0 {
				return nil, api.ErrForm
			}
			pad := int(body[size-1])
			if pad < 4 || pad%4 > 0 || pad > size {
				return nil, api.ErrForm
			}
			body = body[:size-pad]
		}
		m, err := plainMsg(typ, int(first%32), body)
		if err != api.OK {
			return nil, err
		}
		l = append(l, m)
	}
	return l, api.OK
}

// plainMsg reads a body by places.
func plainMsg(typ uint8, count int, b []byte) (rtcp.Msg, api.Errno) {
	num := func(i int) uint32 {
		return uint32(b[i])<<24 | uint32(b[i+1])<<16 | uint32(b[i+2])<<8 | uint32(b[i+3])
	}
	var l []rtcp.Report
	reports := func(at int) {
		for i := range count {
			o := at + 24*i
			l = append(l, rtcp.Report{
				SSRC: num(o), Part: b[o+4], Lost: num(o+4) % 16777216, High: num(o + 8), Jitter: num(o + 12), Last: num(o + 16), Delay: num(o + 20),
			})
		}
	}
	switch {
	case typ == 200:
		if len(b) < 24+24*count {
			return rtcp.Msg{}, api.ErrShort
		}
		reports(24)
		i := rtcp.Info{Clock: uint64(num(4))<<32 | uint64(num(8)), Time: num(12), Packets: num(16), Bytes: num(20)}
		return rtcp.Msg{Kind: 0, SSRC: num(0), Info: i, Reports: l}, api.OK
	case typ == 201:
		if len(b) < 4+24*count {
			return rtcp.Msg{}, api.ErrShort
		}
		reports(4)
		return rtcp.Msg{Kind: 1, SSRC: num(0), Reports: l}, api.OK
	case typ == 203:
		if len(b) < 4*count {
			return rtcp.Msg{}, api.ErrShort
		}
		m := rtcp.Msg{Kind: 2}
		for i := range count {
			m.Who = append(m.Who, num(4*i))
		}
		return m, api.OK
	case typ != 205 && typ != 206 || count != 1 && (typ == 205 || count != 4):
		return rtcp.Msg{Kind: 6, Type: typ}, api.OK
	case len(b) < 8:
		return rtcp.Msg{}, api.ErrShort
	}
	m := rtcp.Msg{Kind: 4, SSRC: num(0), Media: num(4)}
	if typ == 205 {
		m.Kind = 3
		for o := 8; o+4 <= len(b); o += 4 {
			m.Pairs = append(m.Pairs, nack.Pair{Pid: uint16(num(o) >> 16), Mask: uint16(num(o))})
		}
	} else if count == 4 {
		m.Kind = 5
		for o := 8; o+8 <= len(b); o += 8 {
			m.Asks = append(m.Asks, rtcp.Ask{SSRC: num(o), N: b[o+4]})
		}
	}
	if m.Kind != 4 && len(m.Pairs)+len(m.Asks) == 0 {
		return rtcp.Msg{}, api.ErrForm
	}
	return m, api.OK
}

// beside reads bytes as the plain reader does.
func beside(t *testing.T, b []byte) {
	t.Helper()
	want, e := plain(b)
	l, err := rtcp.Parse(b)
	if !slices.EqualFunc(l, want, alike) || err != e {
		t.Fatalf("parse of %v: %+v, error %d, not %+v, error %d", b, l, err, want, e)
	}
}

func TestParseBesideAPlainOne(t *testing.T) {
	for first := range 256 {
		for typ := 190; typ < 226; typ++ {
			for words := range 14 {
				for _, last := range []byte{0, 3, 4, 8, 12, 44, 48} {
					body := rising(byte(first), 4*words)
					if words > 0 {
						body[len(body)-1] = last
					}
					b := whole(byte(first), byte(typ), body...)
					beside(t, b)
					beside(t, join(b, []byte{161, 203, 0, 2, 1, 2, 3, 4, 9, 9, 9, last}))
				}
			}
		}
	}
}

// Rows of messages by chance, some of their bytes changed.
func TestParseOfManyBesideAPlainOne(t *testing.T) {
	chance := rand.New(rand.NewPCG(9, 2))
	for range 100000 {
		var b []byte
		for range 1 + chance.IntN(4) {
			first := 128 + byte(chance.IntN(64))
			if chance.IntN(3) > 0 {
				first = []byte{128, 129, 132}[chance.IntN(3)]
			}
			typ := 192 + byte(chance.IntN(32))
			if chance.IntN(5) > 0 {
				typ = 200 + byte(chance.IntN(7))
			}
			var body []byte
			for range 4 * chance.IntN(20) {
				body = append(body, byte(chance.Uint32()))
			}
			b = join(b, whole(first, typ, body...))
		}
		switch chance.IntN(4) {
		case 0:
			b[chance.IntN(len(b))] = byte(chance.Uint32())
		case 1:
			b = b[:chance.IntN(len(b))]
		case 2:
			b = with(b, 161, 203, 0, 1+byte(chance.IntN(2)), 0, 0, 0, 4, byte(chance.IntN(2)), 0, 0, byte(4*chance.IntN(4)))
		}
		beside(t, b)
	}
}

func ExamplePut() {
	fmt.Println(rtcp.Put(rtcp.Msg{Kind: rtcp.Pli, SSRC: 1, Media: 2}))
	// Output: [129 206 0 2 0 0 0 1 0 0 0 2] 0
}

func ExampleParse() {
	l, err := rtcp.Parse([]byte{129, 205, 0, 3, 0, 0, 0, 1, 0, 0, 0, 2, 0, 5, 0, 5})
	fmt.Println(l[0].Kind == rtcp.Nack, l[0].SSRC, l[0].Media, nack.List(l[0].Pairs...), err)
	// Output: true 1 2 [5 6 8] 0
}
