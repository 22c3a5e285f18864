package down_test

import (
	"bytes"
	"fmt"
	"math"
	"math/rand/v2"
	"reflect"
	"slices"
	"testing"

	"louver/api"
	"louver/choose"
	"louver/down"
	"louver/ext"
	"louver/munge"
	"louver/rtp"
	"louver/vp8"
)

// ssrc is that of most downtracks here.
const ssrc = 0x80000007

// came is a packet that came, what is wanted then, and whether that is muted.
type came struct {
	p           rtp.Packet
	from, layer int
	want        choose.Want
	muted       bool
}

// desc is a descriptor that tells of all there is, of a part that begins no frame.
func desc(pic uint16, tl0 uint8) vp8.Desc {
	return vp8.Desc{
		More: true, HasPic: true, Wide: true, Pic: pic, HasTl0: true, Tl0: tl0, HasTid: true, HasKey: true, Key: 9,
	}
}

// packet is one of those numbers, of a descriptor and bytes behind it.
func packet(n munge.Nums, d vp8.Desc, body ...byte) rtp.Packet {
	head, err := vp8.Put(d)
	if err != api.OK {
		panic(fmt.Sprintf("%+v: %v", d, err))
	}
	return rtp.Packet{
		Head:    rtp.Head{Type: 96, Seq: n.Seq, Time: n.Time, SSRC: 0x01020304},
		Payload: append(head, body...),
	}
}

// whole, begin and later are packets of source 1 and layer 2, which are wanted: the first one of a frame that leans on none, of one that leans on another one, and one behind those.
func whole(n munge.Nums) came { return as(n, true, 0, 0, 50) }

func begin(n munge.Nums) came { return as(n, true, 0, 1, 51) }

func later(n munge.Nums) came { return as(n, false, 0, 2, 52) }

// high and highLater are of a temporal layer above what is wanted.
func high(n munge.Nums) came { return as(n, true, 2, 1, 53) }

func highLater(n munge.Nums) came { return as(n, false, 2, 2, 54) }

var wanted = choose.Want{From: 1, Layer: 2, Tid: 1}

// as is a packet of source 1 and layer 2, and of a temporal layer; the first byte of its body, if that is even, tells that it leans on none.
func as(n munge.Nums, first bool, tid uint8, body ...byte) came {
	d := desc(n.Pic, n.Tl0)
	d.Start, d.Tid = first, tid
	return came{p: packet(n, d, body...), from: 1, layer: 2, want: wanted}
}

// bad is a packet that rtp.Put refuses.
func bad(c came) came {
	c.p.Type = 128
	return c
}

// of is a packet as one of another source and layer.
func of(c came, from, layer int) came {
	c.from, c.layer = from, layer
	return c
}

// wants is a packet where something else is wanted.
func wants(c came, from, layer, tid int) came {
	c.want = choose.Want{From: from, Layer: layer, Tid: tid}
	return c
}

// mute is a packet that comes where muted is told.
func mute(c came) came {
	c.muted = true
	return c
}

// seq is numbers of a Seq, of which the others are told apart from it.
func seq(n uint16) munge.Nums {
	return munge.Nums{Seq: n, Time: uint32(n) * 10, Pic: n & 32767, Tl0: uint8(n)}
}

// asSent is the bytes of a packet as it came, over which the downtrack's SSRC and numbers are laid.
func asSent(t *testing.T, p rtp.Packet, ssrc uint32, n munge.Nums) []byte {
	t.Helper()
	b, err := rtp.Put(p)
	if err != api.OK {
		t.Fatalf("%+v: %v", p, err)
	}
	copy(b[2:], []byte{byte(n.Seq >> 8), byte(n.Seq)})
	copy(b[4:], []byte{byte(n.Time >> 24), byte(n.Time >> 16), byte(n.Time >> 8), byte(n.Time)})
	copy(b[8:], []byte{byte(ssrc >> 24), byte(ssrc >> 16), byte(ssrc >> 8), byte(ssrc)})
	d, _, err := vp8.Parse(p.Payload)
	if err != api.OK {
		t.Fatalf("%+v: %v", p, err)
	}
	at := p.Size() + 2
	switch {
	case d.HasPic && d.Wide:
		copy(b[at:], []byte{128 | byte(n.Pic>>8), byte(n.Pic)})
		at += 2
	case d.HasPic:
		b[at] = byte(n.Pic) & 127
		at++
	}
	if d.HasTl0 {
		b[at] = n.Tl0
	}
	return b
}

// copied is a packet that shares nothing with another one.
func copied(p rtp.Packet) rtp.Packet {
	p.CSRC = slices.Clone(p.CSRC)
	p.Payload = bytes.Clone(p.Payload)
	p.Exts = slices.Clone(p.Exts)
	for i := range p.Exts {
		p.Exts[i].Data = bytes.Clone(p.Exts[i].Data)
	}
	return p
}

// newDown is a downtrack of a room that may be.
func newDown(t *testing.T, room int) *down.Down {
	t.Helper()
	d := down.New(ssrc, room)
	if d == nil {
		t.Fatalf("room %d: none", room)
	}
	return d
}

// take takes a packet, which stays as it was; so many more of each were counted, and a whole frame is asked for, or not.
func take(t *testing.T, d *down.Down, c came, more down.Count, asks bool) ([]byte, bool) {
	t.Helper()
	was, count := copied(c.p), d.Count()
	b, sent, asked := d.Take(c.p, c.from, c.layer, c.want, c.muted)
	if !reflect.DeepEqual(c.p, was) {
		t.Fatalf("the packet that came is %+v, not %+v", c.p, was)
	}
	now := down.Count{
		Sent: count.Sent + more.Sent, Left: count.Left + more.Left, Dropped: count.Dropped + more.Dropped,
		Late: count.Late + more.Late, Bad: count.Bad + more.Bad,
	}
	if got := d.Count(); got != now {
		t.Fatalf("%+v: the count is %+v, not %+v", c, got, now)
	}
	if asked != asks {
		t.Fatalf("%+v: a whole frame is asked for: %t, not %t", c, asked, asks)
	}
	return b, sent
}

// sends tells whether a packet is sent on with those numbers, and kept.
func sends(t *testing.T, d *down.Down, c came, n munge.Nums, asks bool) []byte {
	t.Helper()
	want := asSent(t, c.p, d.SSRC(), n)
	b, sent := take(t, d, c, down.Count{Sent: 1}, asks)
	if !sent || !bytes.Equal(b, want) {
		t.Fatalf("%+v: %v, %t, not %v, true", c, b, sent, want)
	}
	keeps(t, d, n.Seq, want)
	return b
}

// refuses tells whether nothing is sent of a packet.
func refuses(t *testing.T, d *down.Down, c came, more down.Count, asks bool) {
	t.Helper()
	if b, sent := take(t, d, c, more, asks); sent || len(b) != 0 {
		t.Fatalf("%+v: %v, %t, not nothing, false", c, b, sent)
	}
}

var (
	left    = down.Count{Left: 1}
	dropped = down.Count{Dropped: 1}
	late    = down.Count{Late: 1}
	isBad   = down.Count{Bad: 1}
)

// keeps looks twice: who looks changes nothing.
func keeps(t *testing.T, d *down.Down, seq uint16, want []byte) {
	t.Helper()
	for range 2 {
		if b, ok := d.Again(seq); !ok || !bytes.Equal(b, want) {
			t.Fatalf("again %d: %v, %t, not %v, true", seq, b, ok, want)
		}
	}
}

// keepsNot tells whether none of those is kept.
func keepsNot(t *testing.T, d *down.Down, seqs ...uint16) {
	t.Helper()
	for _, seq := range seqs {
		if b, ok := d.Again(seq); ok || len(b) != 0 {
			t.Fatalf("again %d: %v, %t, not nothing, false", seq, b, ok)
		}
	}
}

// stream is a downtrack that was sent a whole frame as Seq 100, so that it is sent those of source 1 and layer 2 from there on.
func stream(t *testing.T) *down.Down {
	t.Helper()
	d := newDown(t, 64)
	sends(t, d, whole(seq(100)), seq(100), false)
	return d
}

// P14.1

func TestNewOfARoomThatMayBe(t *testing.T) {
	for _, room := range []int{1, 2, 3, 64, 4095, 4096} {
		for _, ssrc := range []uint32{0, 1, 1<<31 - 1, api.Own, api.Own + 1, math.MaxUint32} {
			d := down.New(ssrc, room)
			if d == nil {
				t.Fatalf("room %d: none", room)
			}
			if d.SSRC() != ssrc || d.Count() != (down.Count{}) {
				t.Fatalf("SSRC %d, count %+v, not %d, noughts", d.SSRC(), d.Count(), ssrc)
			}
			keepsNot(t, d, 0, 1, 100, 65535)
		}
	}
}

func TestNewOfARoomThatMayNotBe(t *testing.T) {
	for _, room := range []int{0, -1, -64, math.MinInt32, math.MinInt, 4097, 4098, 65536, math.MaxInt32, math.MaxInt} {
		if down.New(ssrc, room) != nil {
			t.Errorf("room %d: there is one", room)
		}
	}
}

// Room packets are kept, and no more.
func TestNewKeepsRoom(t *testing.T) {
	for _, room := range []int{1, 2, 3, 64, 4096} {
		d := newDown(t, room)
		var kept [][]byte
		for i := range room + 2 {
			c := later(seq(uint16(i)))
			if i == 0 {
				c = whole(seq(0))
			}
			kept = append(kept, sends(t, d, c, seq(uint16(i)), false))
			if i >= room {
				keepsNot(t, d, uint16(i-room))
			}
		}
		for i := 2; i < room+2; i++ {
			keeps(t, d, uint16(i), kept[i])
		}
	}
}

// Its numbers are none yet: the first frame has its own.
func TestNewHasNoNumbers(t *testing.T) {
	for _, n := range []munge.Nums{
		{}, seq(1), seq(100), {Seq: 65535, Time: math.MaxUint32, Pic: 32767, Tl0: 255}, {Seq: 32768, Time: 1 << 31, Pic: 16384, Tl0: 128},
	} {
		sends(t, newDown(t, 1), whole(n), n, false)
	}
}

// Its choice is none yet: only a frame that leans on none begins it.
func TestNewChoosesNone(t *testing.T) {
	d := newDown(t, 9)
	for i, c := range []func(munge.Nums) came{begin, later, high, highLater} {
		n := seq(uint16(i))
		refuses(t, d, c(n), left, true)
		refuses(t, d, of(wants(c(n), 0, 0, 3), 0, 0), left, true) // nor is it of source 0 and layer 0
	}
	sends(t, d, whole(seq(9)), seq(9), false)
}

// Nil

func TestNil(t *testing.T) {
	var d *down.Down
	for _, c := range []came{{}, whole(seq(1)), later(seq(1)), bad(whole(seq(1))), mute(whole(seq(1)))} {
		if b, sent, asks := d.Take(c.p, c.from, c.layer, c.want, c.muted); len(b) != 0 || sent || asks {
			t.Error(b, sent, asks)
		}
	}
	for n := range 65536 {
		keepsNot(t, d, uint16(n))
	}
	if d.SSRC() != 0 || d.Count() != (down.Count{}) {
		t.Error(d.SSRC(), d.Count())
	}
}

// One that New did not make: some answer, and no panic.
func TestOneThatNewDidNotMake(t *testing.T) {
	var d down.Down
	for _, c := range []came{{}, later(seq(1)), whole(seq(1)), later(seq(2)), bad(later(seq(3))), mute(later(seq(4)))} {
		d.Take(c.p, c.from, c.layer, c.want, c.muted)
	}
	d.Again(1)
	d.SSRC()
	d.Count()
}

// P14.2: the third answer

func TestAsksWhileNotOn(t *testing.T) {
	d := newDown(t, 9)
	refuses(t, d, later(seq(1)), left, true)
	refuses(t, d, begin(seq(2)), left, true)
	refuses(t, d, bad(whole(seq(3))), isBad, true)
	refuses(t, d, of(whole(seq(4)), 2, 2), left, true)
	refuses(t, d, wants(whole(seq(5)), 0, 0, 0), left, true)
	refuses(t, d, came{}, isBad, true)
}

// Behind a Switch none is asked for: it is told of the choice behind the packet, not ahead of it.
func TestAsksNotBehindSwitch(t *testing.T) {
	d := newDown(t, 9)
	sends(t, d, whole(seq(1)), seq(1), false)
	sends(t, d, later(seq(2)), seq(2), false)
	refuses(t, d, high(seq(3)), dropped, false)
	refuses(t, d, of(whole(seq(4)), 1, 0), left, false)
	refuses(t, d, bad(later(seq(4))), isBad, false)
	refuses(t, d, whole(seq(1)), late, false)
}

// Where another source, or layer, is wanted, what is sent goes on, and a whole frame is asked for till it comes.
func TestAsksWhereAnotherIsWanted(t *testing.T) {
	for _, w := range []choose.Want{{From: 2, Layer: 2, Tid: 1}, {From: 1, Layer: 0, Tid: 1}, {From: 1, Layer: 1}, {From: 0, Layer: 0}, {From: -1, Layer: 3, Tid: 9}} {
		d := stream(t)
		sends(t, d, wants(later(seq(101)), w.From, w.Layer, w.Tid), seq(101), true)
		refuses(t, d, wants(high(seq(102)), w.From, w.Layer, 0), dropped, true)
		refuses(t, d, wants(bad(later(seq(103))), w.From, w.Layer, w.Tid), isBad, true)
		refuses(t, d, wants(whole(seq(100)), w.From, w.Layer, w.Tid), late, true)
		other := of(wants(begin(seq(500)), w.From, w.Layer, w.Tid), w.From, w.Layer)
		refuses(t, d, other, left, true)
		n := munge.Nums{Seq: 102, Time: 1010 + 3000, Pic: 102, Tl0: 102}
		sends(t, d, of(wants(whole(seq(501)), w.From, w.Layer, w.Tid), w.From, w.Layer), n, false)
		refuses(t, d, later(seq(104)), left, true) // the first one is wanted again
	}
}

// What was wanted for a while leaves nothing behind.
func TestAsksOfWhatIsWantedNow(t *testing.T) {
	d := stream(t)
	sends(t, d, wants(later(seq(101)), 2, 2, 1), seq(101), true)
	sends(t, d, later(seq(102)), seq(102), false)
}

// Another temporal layer is no other stream.
func TestAsksNotWhereAnotherTidIsWanted(t *testing.T) {
	d := stream(t)
	for i, tid := range []int{0, 3, -1, 2, 1} {
		n := seq(uint16(101 + i))
		sends(t, d, wants(later(n), 1, 2, tid), n, false)
	}
}

func TestAsksNotWhereMuted(t *testing.T) {
	d := newDown(t, 9)
	for _, c := range []came{
		{}, whole(seq(1)), begin(seq(2)), later(seq(3)), bad(later(seq(4))), of(whole(seq(5)), 2, 0),
		wants(whole(seq(6)), 2, 2, 1), wants(later(seq(7)), 1, 0, 1),
	} {
		refuses(t, d, mute(c), left, false) // not On
		d := stream(t)
		refuses(t, d, mute(c), left, false) // On
	}
}

// P14.2: muted

// Behind a muted packet what comes waits for a frame that leans on none.
func TestMuted(t *testing.T) {
	d := stream(t)
	refuses(t, d, mute(later(seq(101))), left, false)
	keepsNot(t, d, 101)
	refuses(t, d, later(seq(102)), left, true)
	refuses(t, d, begin(seq(103)), left, true)
	refuses(t, d, mute(whole(seq(104))), left, false)
	refuses(t, d, later(seq(105)), left, true)
	refuses(t, d, bad(whole(seq(106))), isBad, true)
	keeps(t, d, 100, asSent(t, whole(seq(100)).p, ssrc, seq(100)))
	keepsNot(t, d, 101)
	n := munge.Nums{Seq: 101, Time: 1000 + 3000, Pic: 101, Tl0: 101}
	sends(t, d, whole(seq(110)), n, false)
	n = munge.Nums{Seq: 102, Time: 1000 + 3000 + 10, Pic: 102, Tl0: 102}
	sends(t, d, later(seq(111)), n, false)
}

// Muted is told ahead of all else: what would be Bad, Late, or dropped, or is of another stream, is Left.
func TestMutedOfAnything(t *testing.T) {
	for _, c := range []came{
		{}, whole(seq(101)), whole(seq(100)), whole(seq(99)), later(seq(101)), high(seq(101)), highLater(seq(101)),
		bad(later(seq(101))), {from: 1, layer: 2, want: wanted}, of(whole(seq(7)), 2, 2), of(wants(whole(seq(8)), 2, 2, 1), 2, 2),
	} {
		d := stream(t)
		refuses(t, d, mute(c), left, false)
		refuses(t, d, later(seq(102)), left, true)
		n := munge.Nums{Seq: 101, Time: 1000 + 3000, Pic: 101, Tl0: 101} // nothing was taken from the numbers
		sends(t, d, whole(seq(103)), n, false)
	}
}

// What is muted stays so as long as it is told, and no longer.
func TestMutedForLong(t *testing.T) {
	d := newDown(t, 9)
	for i := range 1000 {
		refuses(t, d, mute(whole(seq(uint16(i)))), left, false)
	}
	sends(t, d, whole(seq(1000)), seq(1000), false)
	sends(t, d, begin(seq(1001)), seq(1001), false)
}

// P14.2: Bad

// short are payloads that vp8.Parse refuses.
var short = [][]byte{
	nil, {}, {128}, {144}, {128, 128}, {128, 128, 128}, {144, 128, 255}, {128, 64}, {128, 32}, {128, 16}, {128, 48},
	{128, 192, 5}, {128, 192, 128, 5}, {128, 224, 128, 5, 6}, {255, 255, 255, 255, 255},
}

// wrong are what rtp.Put refuses of a packet.
var wrong = map[string]func(*rtp.Packet){
	"Type 128":       func(p *rtp.Packet) { p.Type = 128 },
	"Type 255":       func(p *rtp.Packet) { p.Type = 255 },
	"16 CSRC":        func(p *rtp.Packet) { p.CSRC = make([]uint32, 16) },
	"Pad -1":         func(p *rtp.Packet) { p.Pad = -1 },
	"Pad lowest":     func(p *rtp.Packet) { p.Pad = math.MinInt },
	"Pad 256":        func(p *rtp.Packet) { p.Pad = 256 },
	"Pad highest":    func(p *rtp.Packet) { p.Pad = math.MaxInt },
	"Id 0":           func(p *rtp.Packet) { p.Exts = []ext.Item{{}} },
	"Data of 256":    func(p *rtp.Packet) { p.Exts = []ext.Item{{Id: 1, Data: make([]byte, 256)}} },
	"15 Exts":        func(p *rtp.Packet) { p.Exts = items(15) },
	"1501 bytes":     func(p *rtp.Packet) { p.Payload = longer(p.Payload, api.MaxPacket+1-12) },
	"1501, with Pad": func(p *rtp.Packet) { p.Pad, p.Payload = 5, longer(p.Payload, api.MaxPacket+1-12-5) },
	"1501, with CSRC": func(p *rtp.Packet) {
		p.CSRC, p.Payload = make([]uint32, 15), longer(p.Payload, api.MaxPacket+1-12-60)
	},
	"far too many": func(p *rtp.Packet) { p.Payload = longer(p.Payload, 1<<20) },
}

// edge are what rtp.Put just takes of a packet.
var edge = map[string]func(*rtp.Packet){
	"Type 127":       func(p *rtp.Packet) { p.Type = 127 },
	"15 CSRC":        func(p *rtp.Packet) { p.CSRC = make([]uint32, 15) },
	"Pad 0":          func(p *rtp.Packet) { p.Pad = 0 },
	"Pad 255":        func(p *rtp.Packet) { p.Pad = 255 },
	"Data of 255":    func(p *rtp.Packet) { p.Exts = []ext.Item{{Id: 1, Data: make([]byte, 255)}} },
	"14 Exts":        func(p *rtp.Packet) { p.Exts = items(14) },
	"1500 bytes":     func(p *rtp.Packet) { p.Payload = longer(p.Payload, api.MaxPacket-12) },
	"1500, with Pad": func(p *rtp.Packet) { p.Pad, p.Payload = 5, longer(p.Payload, api.MaxPacket-12-5) },
	"1500, with CSRC": func(p *rtp.Packet) {
		p.CSRC, p.Payload = make([]uint32, 15), longer(p.Payload, api.MaxPacket-12-60)
	},
}

// items are so many extensions.
func items(n int) []ext.Item {
	var l []ext.Item
	for i := range n {
		l = append(l, ext.Item{Id: uint8(i + 1), Data: []byte{byte(i), 7}})
	}
	return l
}

// longer is bytes with more behind them, so many in all.
func longer(b []byte, n int) []byte { return append(bytes.Clone(b), make([]byte, n-len(b))...) }

// eachBad goes through packets that are Bad, made of one that isn't.
func eachBad(c came, yield func(string, came)) {
	for _, b := range short {
		x := c
		x.p.Payload = b
		yield(fmt.Sprint("payload ", b), x)
	}
	for name, spoil := range wrong {
		x := c
		spoil(&x.p)
		yield(name, x)
		x.p.Payload = nil
		yield(name+", without a payload", x)
	}
}

// Of the stream a Bad packet leaves no gap; its Pic is not taken, though a frame begins.
func TestBadOfTheStream(t *testing.T) {
	for _, kind := range []func(munge.Nums) came{whole, begin, later, high, highLater} {
		eachBad(kind(seq(101)), func(name string, c came) {
			d := stream(t)
			refuses(t, d, c, isBad, false)
			keepsNot(t, d, 101)
			n := seq(102)
			n.Seq = 101
			sends(t, d, later(seq(102)), n, false)
		})
	}
}

// What is sent counts there, not what is wanted.
func TestBadOfTheStreamWhereAnotherIsWanted(t *testing.T) {
	for _, w := range []choose.Want{{From: 2, Layer: 2, Tid: 1}, {From: 1, Layer: 1, Tid: 1}} {
		eachBad(wants(later(seq(101)), w.From, w.Layer, w.Tid), func(name string, c came) {
			d := stream(t)
			refuses(t, d, c, isBad, true)
			n := seq(102)
			n.Seq = 101
			sends(t, d, later(seq(102)), n, false)
		})
	}
}

// Of another source, or layer, it takes nothing from the numbers, be that wanted or not.
func TestBadOfAnotherStream(t *testing.T) {
	for _, place := range [][2]int{{2, 2}, {1, 1}, {1, 3}, {0, 0}, {2, 1}} {
		eachBad(of(whole(seq(101)), place[0], place[1]), func(name string, c came) {
			d := stream(t)
			refuses(t, d, c, isBad, false)
			refuses(t, d, wants(c, place[0], place[1], 1), isBad, true)
			sends(t, d, later(seq(101)), seq(101), false)
		})
	}
}

// Nothing begins with a Bad packet, and nothing is taken from the numbers where nothing is sent.
func TestBadWhileNotOn(t *testing.T) {
	eachBad(whole(seq(100)), func(name string, c came) {
		d := newDown(t, 9)
		refuses(t, d, c, isBad, true)
		refuses(t, d, of(wants(c, 0, 0, 0), 0, 0), isBad, true)
		sends(t, d, whole(seq(101)), seq(101), false)

		refuses(t, d, mute(later(seq(102))), left, false)
		refuses(t, d, c, isBad, true)
		n := munge.Nums{Seq: 102, Time: 1010 + 3000, Pic: 102, Tl0: 102}
		sends(t, d, whole(seq(110)), n, false)
	})
}

// A Bad packet that comes late stays a gap: what was sent behind it counts it. It may still come as it should.
func TestBadThatComesLate(t *testing.T) {
	eachBad(later(seq(101)), func(name string, c came) {
		d := stream(t)
		sends(t, d, later(seq(102)), seq(102), false)
		refuses(t, d, c, isBad, false)
		sends(t, d, later(seq(103)), seq(103), false)
		sends(t, d, later(seq(101)), seq(101), false)
	})
}

// Behind a Bad one what comes late is not sent: what was taken from it is known no more.
func TestLateBehindBad(t *testing.T) {
	d := stream(t)
	refuses(t, d, bad(later(seq(102))), isBad, false)
	refuses(t, d, later(seq(101)), late, false)
	refuses(t, d, later(seq(102)), late, false)
	n := seq(103)
	n.Seq = 102
	sends(t, d, later(seq(103)), n, false)
}

// A Bad packet is not chosen by: neither does another stream begin, nor does the temporal layer change.
func TestBadIsNotChosenBy(t *testing.T) {
	d := stream(t)
	refuses(t, d, bad(wants(begin(seq(101)), 1, 2, 0)), isBad, false)
	c := later(seq(102))
	c.p = packet(seq(102), vp8.Desc{More: true, HasTid: true, Tid: 1}, 1)
	sends(t, d, c, munge.Nums{Seq: 101, Time: 1020}, false) // it would be dropped, if the layer had changed
	refuses(t, d, bad(of(wants(whole(seq(7)), 2, 2, 1), 2, 2)), isBad, true)
	n := seq(103)
	n.Seq = 102
	sends(t, d, later(seq(103)), n, false)
}

// What is just no more than may be is sent.
func TestNotQuiteBad(t *testing.T) {
	for name, change := range edge {
		t.Run(name, func(t *testing.T) {
			first, second := whole(seq(100)), later(seq(101))
			change(&first.p)
			change(&second.p)
			d := newDown(t, 9)
			sends(t, d, first, seq(100), false)
			sends(t, d, second, seq(101), false)
		})
	}
}

// P14.2: Leave, Switch, Send

// What is not of the stream, and doesn't begin what is wanted, is Left; the numbers stay.
func TestLeave(t *testing.T) {
	d := stream(t)
	for i, c := range []came{
		of(later(seq(101)), 1, 1), of(whole(seq(102)), 2, 2), of(begin(seq(103)), 0, 0),
		of(high(seq(104)), 1, 0), of(whole(seq(101)), -1, 2),
	} {
		refuses(t, d, c, left, false)
		n := seq(uint16(101 + i))
		sends(t, d, later(n), n, false)
	}
	refuses(t, d, of(wants(begin(seq(300)), 1, 0, 3), 1, 0), left, true)
	refuses(t, d, of(wants(later(seq(301)), 1, 0, 3), 1, 0), left, true)
	sends(t, d, later(seq(106)), seq(106), false)
}

// What tells that a frame begins, and leans on none: Start, Part 0, and an even byte behind the descriptor.
func TestWhatBegins(t *testing.T) {
	for part := range 8 {
		for _, start := range []bool{false, true} {
			for _, body := range [][]byte{nil, {0}, {1}, {2, 1}, {3, 0}, {254}, {255}} {
				x := desc(7, 8)
				x.Start, x.Part = start, uint8(part)
				c := whole(seq(1))
				c.p = packet(munge.Nums{Seq: 1, Time: 2}, x, body...)
				d := newDown(t, 1)
				if start && part == 0 && len(body) > 0 && body[0]%2 == 0 {
					sends(t, d, c, munge.Nums{Seq: 1, Time: 2, Pic: 7, Tl0: 8}, false)
				} else {
					refuses(t, d, c, left, true)
				}
			}
		}
	}
}

func TestSend(t *testing.T) {
	d := stream(t)
	for n := uint16(101); n < 160; n++ {
		c := later(seq(n))
		if n%3 == 0 {
			c = begin(seq(n))
		}
		sends(t, d, c, seq(n), false)
	}
	sends(t, d, later(seq(170)), seq(170), false) // what is lost stays a gap
	sends(t, d, whole(seq(171)), seq(171), false) // a whole frame of the stream is one more of it
}

// Behind a Switch another one: Seq, Pic and Tl0 are one higher, and Time is a step of 3000 higher.
func TestSwitchBehindSwitch(t *testing.T) {
	d := newDown(t, 64)
	sends(t, d, whole(munge.Nums{Seq: 100, Time: 9000, Pic: 50, Tl0: 60}), munge.Nums{Seq: 100, Time: 9000, Pic: 50, Tl0: 60}, false)
	sends(t, d, later(munge.Nums{Seq: 101, Time: 9005, Pic: 51, Tl0: 61}), munge.Nums{Seq: 101, Time: 9005, Pic: 51, Tl0: 61}, false)
	to := func(c came) came { return of(wants(c, 5, 0, 1), 5, 0) }
	sends(t, d, to(whole(munge.Nums{Seq: 40000, Time: 77, Pic: 9000, Tl0: 3})), munge.Nums{Seq: 102, Time: 12005, Pic: 52, Tl0: 62}, false)
	sends(t, d, to(later(munge.Nums{Seq: 40001, Time: 80, Pic: 9001, Tl0: 5})), munge.Nums{Seq: 103, Time: 12008, Pic: 53, Tl0: 64}, false)
	refuses(t, d, later(munge.Nums{Seq: 102, Time: 9010, Pic: 52, Tl0: 62}), left, true)
	sends(t, d, whole(munge.Nums{Seq: 103, Time: 9020, Pic: 53, Tl0: 63}), munge.Nums{Seq: 104, Time: 15008, Pic: 54, Tl0: 65}, false)
	sends(t, d, begin(munge.Nums{Seq: 104, Time: 9030, Pic: 54, Tl0: 64}), munge.Nums{Seq: 105, Time: 15018, Pic: 55, Tl0: 66}, false)
	sends(t, d, of(wants(whole(munge.Nums{Seq: 104, Time: 9030, Pic: 54, Tl0: 64}), 1, 1, 1), 1, 1), munge.Nums{Seq: 106, Time: 18018, Pic: 56, Tl0: 67}, false)
}

// What comes late from ahead of the Switch's packet is not sent.
func TestLateBehindSwitch(t *testing.T) {
	d := stream(t)
	to := func(c came) came { return of(wants(c, 1, 0, 1), 1, 0) }
	sends(t, d, to(whole(seq(500))), munge.Nums{Seq: 101, Time: 4000, Pic: 101, Tl0: 101}, false)
	refuses(t, d, to(later(seq(499))), late, false)
	refuses(t, d, to(later(seq(500))), late, false)
	sends(t, d, to(later(seq(502))), munge.Nums{Seq: 103, Time: 4020, Pic: 103, Tl0: 103}, false)
	sends(t, d, to(later(seq(501))), munge.Nums{Seq: 102, Time: 4010, Pic: 102, Tl0: 102}, false)
}

// P14.2: Drop

// Where a frame's first packet is dropped Seq and Pic are one less behind it; where a later one is, Seq alone.
func TestDrop(t *testing.T) {
	d := stream(t)
	refuses(t, d, high(seq(101)), dropped, false)
	keepsNot(t, d, 101)
	sends(t, d, begin(seq(102)), munge.Nums{Seq: 101, Time: 1020, Pic: 101, Tl0: 102}, false)
	refuses(t, d, highLater(seq(103)), dropped, false)
	sends(t, d, later(seq(104)), munge.Nums{Seq: 102, Time: 1040, Pic: 103, Tl0: 104}, false)
	refuses(t, d, high(seq(105)), dropped, false)
	refuses(t, d, highLater(seq(106)), dropped, false)
	refuses(t, d, highLater(seq(107)), dropped, false)
	sends(t, d, later(seq(108)), munge.Nums{Seq: 103, Time: 1080, Pic: 106, Tl0: 108}, false)
}

// What is dropped late stays a gap.
func TestDropThatComesLate(t *testing.T) {
	d := stream(t)
	sends(t, d, later(seq(102)), seq(102), false)
	refuses(t, d, high(seq(101)), dropped, false)
	refuses(t, d, highLater(seq(99)), dropped, false)
	sends(t, d, later(seq(103)), seq(103), false)
	sends(t, d, later(seq(101)), seq(101), false) // and nothing was taken from it
}

// The temporal layer follows what is wanted where a frame begins.
func TestTid(t *testing.T) {
	d := stream(t)
	at := func(n uint16, first bool, tid uint8, sync bool, wanted int) came {
		c := wants(as(seq(n), first, tid, 1), 1, 2, wanted)
		x := desc(seq(n).Pic, seq(n).Tl0)
		x.Start, x.Tid, x.Sync = first, tid, sync
		c.p = packet(seq(n), x, 1)
		return c
	}
	num := func(n, seq, pic uint16) munge.Nums {
		return munge.Nums{Seq: seq, Time: uint32(n) * 10, Pic: pic, Tl0: uint8(n)}
	}
	sends(t, d, at(101, true, 1, false, 1), num(101, 101, 101), false)
	sends(t, d, at(102, false, 1, false, 0), num(102, 102, 102), false) // in the midst of a frame it stays
	refuses(t, d, at(103, true, 1, false, 0), dropped, false)
	refuses(t, d, at(104, false, 1, true, 3), dropped, false)
	refuses(t, d, at(105, true, 3, false, 3), dropped, false) // none may begin there
	sends(t, d, at(106, true, 2, true, 3), num(106, 103, 104), false)
	sends(t, d, at(107, false, 2, false, 3), num(107, 104, 105), false)
	refuses(t, d, at(108, true, 3, false, 3), dropped, false)
	sends(t, d, wants(whole(seq(109)), 1, 2, 3), num(109, 105, 106), false)
	sends(t, d, at(110, true, 3, false, 3), num(110, 106, 107), false)
}

// What has no temporal layer is never above what is wanted; bits of one that isn't told play no part.
func TestWithoutTid(t *testing.T) {
	d := stream(t)
	c := later(seq(101))
	c.p = packet(seq(101), vp8.Desc{More: true, HasKey: true, Key: 3}, 9)
	c.p.Payload[2] |= 3<<6 | 32
	sends(t, d, wants(c, 1, 2, -1), munge.Nums{Seq: 101, Time: 1010}, false)
	c.p = packet(seq(102), vp8.Desc{Start: true}, 9)
	sends(t, d, wants(c, 1, 2, -1), munge.Nums{Seq: 102, Time: 1020}, false)
}

// P14.2: late

// What comes late is sent with its own numbers, as long as nothing was left out behind it.
func TestLate(t *testing.T) {
	d := stream(t)
	sends(t, d, later(seq(104)), seq(104), false)
	sends(t, d, later(seq(102)), seq(102), false)
	sends(t, d, later(seq(101)), seq(101), false)
	refuses(t, d, later(seq(100)), late, false)
	refuses(t, d, later(seq(99)), late, false)
	refuses(t, d, later(seq(40000)), late, false) // it is as far below as may be
	refuses(t, d, highLater(seq(105)), dropped, false)
	refuses(t, d, later(seq(103)), late, false)
	refuses(t, d, later(seq(105)), late, false)
	keepsNot(t, d, 99, 103, 105)
	n := seq(106)
	n.Seq = 105
	sends(t, d, later(seq(106)), n, false)
	sends(t, d, later(seq(106)), n, false)
}

// Nothing else of one that is Late is told: what is kept stays, and so do the numbers.
func TestLateChangesNoNumbers(t *testing.T) {
	d := stream(t)
	kept, _ := d.Again(100)
	c := begin(munge.Nums{Seq: 100, Time: 99999, Pic: 999, Tl0: 9})
	refuses(t, d, c, late, false)
	keeps(t, d, 100, kept)
	sends(t, d, later(seq(101)), seq(101), false)
}

// It is chosen by all the same.
func TestLateIsChosenBy(t *testing.T) {
	d := stream(t)
	refuses(t, d, wants(begin(seq(99)), 1, 2, 0), late, false)
	c := as(seq(101), false, 1, 1)
	refuses(t, d, c, dropped, false) // the layer is 0 since
}

// P14.3

// rich is a packet of all that there may be.
func rich(c came) came {
	c.p.Mark, c.p.Type, c.p.Pad = true, 127, 7
	c.p.CSRC = []uint32{1, math.MaxUint32, 0, 0xdeadbeef}
	c.p.Exts = []ext.Item{{Id: 3, Data: []byte("three")}, {Id: 255, Data: nil}, {Id: 1, Data: []byte{0}}}
	c.p.Payload = append(c.p.Payload, "a part of a frame"...)
	return c
}

// All else is as in the packet that came.
func TestAllElseStays(t *testing.T) {
	d := stream(t)
	refuses(t, d, high(seq(101)), dropped, false)
	for i, change := range []func(*rtp.Packet){
		func(p *rtp.Packet) {},
		func(p *rtp.Packet) { p.Mark = true },
		func(p *rtp.Packet) { p.Type = 127 },
		func(p *rtp.Packet) { p.SSRC = math.MaxUint32 },
		func(p *rtp.Packet) { p.SSRC = ssrc },
		func(p *rtp.Packet) { p.CSRC = []uint32{ssrc, 2, 3} },
		func(p *rtp.Packet) { p.Exts = []ext.Item{{Id: 1, Data: []byte("a")}} },
		func(p *rtp.Packet) { p.Exts = []ext.Item{{Id: 1, Data: nil}, {Id: 1, Data: []byte("a")}} },
		func(p *rtp.Packet) { p.Pad = 1 },
		func(p *rtp.Packet) { p.Pad = 255 },
		func(p *rtp.Packet) { p.Payload = append(p.Payload, make([]byte, 1000)...) },
	} {
		came := seq(uint16(102 + i))
		n := came
		n.Seq--
		n.Pic--
		c := later(came)
		change(&c.p)
		got, err := rtp.Parse(sends(t, d, c, n, false))
		if err != api.OK {
			t.Fatal(err)
		}
		want := copied(c.p)
		want.Seq, want.Time, want.SSRC = n.Seq, n.Time, ssrc
		want.Payload, _ = vp8.Write(want.Payload, n.Pic, n.Tl0)
		same(t, got, want)
	}
}

// same tells whether two packets are; nil and empty lists are one.
func same(t *testing.T, got, want rtp.Packet) {
	t.Helper()
	a, b := copied(got), copied(want)
	if !slices.EqualFunc(a.Exts, b.Exts, func(x, y ext.Item) bool { return x.Id == y.Id && bytes.Equal(x.Data, y.Data) }) ||
		!slices.Equal(a.CSRC, b.CSRC) || !bytes.Equal(a.Payload, b.Payload) {
		t.Fatalf("%+v, not %+v", got, want)
	}
	a.Exts, a.CSRC, a.Payload = nil, nil, nil
	b.Exts, b.CSRC, b.Payload = nil, nil, nil
	if !reflect.DeepEqual(a, b) {
		t.Fatalf("%+v, not %+v", got, want)
	}
}

// The bytes of one packet, written out.
func TestBytesOfOne(t *testing.T) {
	d := newDown(t, 9)
	c := came{from: 1, layer: 2, want: wanted}
	c.p = rtp.Packet{
		Head:    rtp.Head{Mark: true, Type: 96, Seq: 258, Time: 0x01020304, SSRC: 9, CSRC: []uint32{7}, Exts: []ext.Item{{Id: 1, Data: []byte("ab")}}},
		Payload: []byte{144, 224, 129, 5, 6, 32, 50, 51},
		Pad:     2,
	}
	want := []byte{
		177, 224, 1, 2, 1, 2, 3, 4, 128, 0, 0, 7, 0, 0, 0, 7,
		190, 222, 0, 1, 17, 97, 98, 0,
		144, 224, 129, 5, 6, 32, 50, 51, 0, 2,
	}
	if b := sends(t, d, c, munge.Nums{Seq: 258, Time: 0x01020304, Pic: 261, Tl0: 6}, false); !bytes.Equal(b, want) {
		t.Fatalf("%v, not %v", b, want)
	}
	c.from, c.want.From = 3, 3
	want[3], want[6], want[7] = 3, 14, 188 // one Seq higher, and 3000 of Time
	want[27], want[28] = 6, 7
	if b := sends(t, d, c, munge.Nums{Seq: 259, Time: 0x01020304 + 3000, Pic: 262, Tl0: 7}, false); !bytes.Equal(b, want) {
		t.Fatalf("%v, not %v", b, want)
	}
}

// Descriptors with and without a Pic, a Tl0, and all else.
func TestDescriptors(t *testing.T) {
	for bits := range 64 {
		x := vp8.Desc{
			More: true, Start: true, HasPic: bits&1 != 0, HasTl0: bits&2 != 0, HasTid: bits&4 != 0, HasKey: bits&8 != 0,
			Lone: bits&16 != 0,
		}
		if x.HasPic {
			x.Wide, x.Pic = bits&32 != 0, 100
		}
		if x.HasTl0 {
			x.Tl0 = 200
		}
		if x.HasKey {
			x.Key = 31
		}
		d := stream(t)
		refuses(t, d, high(seq(101)), dropped, false)
		c := begin(seq(102))
		c.p = packet(seq(102), x, 1, 77, 78)
		sends(t, d, c, munge.Nums{Seq: 101, Time: 1020, Pic: 99, Tl0: 200}, false)

		d = stream(t)
		c = of(wants(c, 2, 2, 1), 2, 2)
		c.p = packet(seq(500), x, 0, 77, 78)
		sends(t, d, c, munge.Nums{Seq: 101, Time: 4000, Pic: 101, Tl0: 101}, false)
	}
}

// A descriptor without numbers has none: what it lacks is 0 for those behind it.
func TestPlainDescriptors(t *testing.T) {
	d := newDown(t, 9)
	at := func(n uint16, body byte) came {
		c := whole(seq(n))
		c.p = packet(seq(n), vp8.Desc{Start: true}, body)
		return c
	}
	sends(t, d, at(100, 0), munge.Nums{Seq: 100, Time: 1000}, false)
	sends(t, d, at(101, 1), munge.Nums{Seq: 101, Time: 1010}, false)
	sends(t, d, of(wants(whole(seq(500)), 2, 2, 1), 2, 2), munge.Nums{Seq: 102, Time: 4010, Pic: 1, Tl0: 1}, false)
	sends(t, d, at(103, 0), munge.Nums{Seq: 103, Time: 7010}, false)
	if d.Count().Sent != 4 {
		t.Error(d.Count())
	}
}

// Numbers go round at their ends, each by itself.
func TestNumbersGoRound(t *testing.T) {
	last := munge.Nums{Seq: 65534, Time: math.MaxUint32 - 5, Pic: 32766, Tl0: 254}
	d := newDown(t, 64)
	sends(t, d, whole(last), last, false)
	n := munge.Nums{Seq: 65535, Time: math.MaxUint32, Pic: 32767, Tl0: 255}
	sends(t, d, begin(n), n, false)
	sends(t, d, begin(munge.Nums{Time: 3}), munge.Nums{Time: 3}, false)
	sends(t, d, begin(munge.Nums{Seq: 1, Time: 4, Pic: 1, Tl0: 1}), munge.Nums{Seq: 1, Time: 4, Pic: 1, Tl0: 1}, false)

	d = newDown(t, 64)
	sends(t, d, whole(n), n, false)
	to := func(c came) came { return of(wants(c, 2, 2, 1), 2, 2) }
	sends(t, d, to(whole(munge.Nums{Seq: 5, Time: 6, Pic: 7, Tl0: 8})), munge.Nums{Time: 2999}, false) // one higher than the last ones
	sends(t, d, to(later(munge.Nums{Seq: 6, Time: 7, Pic: 8, Tl0: 9})), munge.Nums{Seq: 1, Time: 3000, Pic: 1, Tl0: 1}, false)

	d = newDown(t, 64)
	sends(t, d, whole(munge.Nums{Seq: 65535, Time: 1}), munge.Nums{Seq: 65535, Time: 1}, false)
	refuses(t, d, high(munge.Nums{Seq: 0, Time: 2, Pic: 1}), dropped, false)
	sends(t, d, begin(munge.Nums{Seq: 1, Time: 3, Pic: 1}), munge.Nums{Seq: 0, Time: 3}, false)
	sends(t, d, begin(munge.Nums{Seq: 2, Time: 3, Pic: 0}), munge.Nums{Seq: 1, Time: 3, Pic: 32767}, false)
}

// A Pic of 7 bits is told by its rest by 128.
func TestNarrowPicGoesRound(t *testing.T) {
	d := newDown(t, 64)
	at := func(n uint16, pic uint16, body byte) came {
		c := whole(seq(n))
		c.p = packet(seq(n), vp8.Desc{More: true, Start: true, HasPic: true, Pic: pic}, body)
		return c
	}
	sends(t, d, at(1, 126, 0), munge.Nums{Seq: 1, Time: 10, Pic: 126}, false)
	sends(t, d, at(2, 127, 1), munge.Nums{Seq: 2, Time: 20, Pic: 127}, false)
	sends(t, d, at(3, 0, 1), munge.Nums{Seq: 3, Time: 30, Pic: 0}, false)
	refuses(t, d, high(seq(4)), dropped, false)
	sends(t, d, at(5, 2, 1), munge.Nums{Seq: 4, Time: 50, Pic: 1}, false)
	sends(t, d, at(6, 0, 1), munge.Nums{Seq: 5, Time: 60, Pic: 127}, false)
	sends(t, d, of(wants(at(99, 9, 0), 2, 2, 1), 2, 2), munge.Nums{Seq: 6, Time: 3060, Pic: 0}, false)
}

// A stream that goes round several times, each seventh packet of which is dropped.
func TestLongStream(t *testing.T) {
	d := newDown(t, 3)
	num := func(n int) munge.Nums {
		return munge.Nums{Seq: uint16(n), Time: uint32(n) * 90000, Pic: uint16(n) & 32767, Tl0: uint8(n)}
	}
	sends(t, d, whole(num(0)), num(0), false)
	gone := 0
	for n := 1; n < 150000; n++ {
		if n%7 == 0 {
			gone++
			refuses(t, d, high(num(n)), dropped, false)
			continue
		}
		out := num(n)
		out.Seq -= uint16(gone)
		out.Pic -= uint16(gone)
		sends(t, d, begin(num(n)), out, false)
	}
}

// P14.3, P14.4: memory

// over writes over all bytes.
func over(b []byte) {
	for i := range b {
		b[i] ^= 0xff
	}
}

// What is sent, what is told again, and the packet that came share nothing.
func TestMemory(t *testing.T) {
	d := newDown(t, 9)
	first := rich(whole(seq(100)))
	want := asSent(t, first.p, ssrc, seq(100))
	b := sends(t, d, first, seq(100), false)
	was := copied(first.p)
	over(b)
	if !reflect.DeepEqual(first.p, was) {
		t.Fatalf("the packet that came is %+v, not %+v", first.p, was)
	}
	keeps(t, d, 100, want)
	again, _ := d.Again(100)
	over(again)
	keeps(t, d, 100, want)
	if !reflect.DeepEqual(first.p, was) {
		t.Fatalf("the packet that came is %+v, not %+v", first.p, was)
	}
	over(first.p.Payload)
	clear(first.p.CSRC)
	for i := range first.p.Exts {
		over(first.p.Exts[i].Data)
		first.p.Exts[i].Id = 9
	}
	keeps(t, d, 100, want)

	second := rich(later(seq(101)))
	b = sends(t, d, second, seq(101), false)
	kept := bytes.Clone(b)
	over(second.p.Payload)
	if !bytes.Equal(b, kept) {
		t.Fatalf("what is sent is %v, not %v", b, kept)
	}
	keeps(t, d, 101, kept)
	keeps(t, d, 100, want)
}

// A payload that has more memory behind it than it tells leaves that as it is.
func TestMemoryBehindThePayload(t *testing.T) {
	d := newDown(t, 9)
	c := whole(seq(100))
	long := append(bytes.Clone(c.p.Payload), 1, 2, 3, 4)
	was := bytes.Clone(long)
	c.p.Payload = long[:len(c.p.Payload)]
	c.p.Pad = 4
	sends(t, d, c, seq(100), false)
	if !bytes.Equal(long, was) {
		t.Fatalf("%v, not %v", long, was)
	}
}

// P14.4

func TestAgainOfWhatWasNeverSent(t *testing.T) {
	d := stream(t)
	refuses(t, d, of(later(seq(200)), 2, 2), left, false)
	refuses(t, d, bad(later(seq(101))), isBad, false)
	refuses(t, d, highLater(seq(102)), dropped, false)
	refuses(t, d, later(seq(99)), late, false)
	for n := range 65536 {
		if n != 100 {
			keepsNot(t, d, uint16(n))
		}
	}
	if d.Count() != (down.Count{Sent: 1, Left: 1, Dropped: 1, Late: 1, Bad: 1}) {
		t.Error(d.Count())
	}
}

// It is asked for by the Seq that it was sent with, not by the one that it came with.
func TestAgainIsOfTheSeqThatWasSent(t *testing.T) {
	d := stream(t)
	n := munge.Nums{Seq: 101, Time: 4000, Pic: 101, Tl0: 101}
	b := sends(t, d, of(wants(whole(seq(5000)), 2, 2, 1), 2, 2), n, false)
	keeps(t, d, 101, b)
	keepsNot(t, d, 5000)
}

func TestAgainOfWhatIsKeptNoMore(t *testing.T) {
	d := newDown(t, 2)
	sends(t, d, whole(seq(100)), seq(100), false)
	sends(t, d, later(seq(101)), seq(101), false)
	keeps(t, d, 100, asSent(t, whole(seq(100)).p, ssrc, seq(100)))
	refuses(t, d, of(later(seq(102)), 2, 2), left, false) // what isn't sent takes no room
	refuses(t, d, bad(later(seq(50))), isBad, false)
	keeps(t, d, 100, asSent(t, whole(seq(100)).p, ssrc, seq(100)))
	sends(t, d, later(seq(102)), seq(102), false)
	keepsNot(t, d, 100)
	keeps(t, d, 101, asSent(t, later(seq(101)).p, ssrc, seq(101)))
	sends(t, d, later(seq(103)), seq(103), false)
	keepsNot(t, d, 100, 101)
}

// What was sent twice is told as it was sent last, and takes room twice.
func TestAgainOfWhatWasSentTwice(t *testing.T) {
	d := newDown(t, 3)
	sends(t, d, whole(seq(100)), seq(100), false)
	sends(t, d, later(seq(101)), seq(101), false)
	other := later(seq(101))
	other.p.Payload = append(other.p.Payload, 99)
	other.p.Mark = true
	second := sends(t, d, other, seq(101), false)
	keeps(t, d, 100, asSent(t, whole(seq(100)).p, ssrc, seq(100)))
	sends(t, d, later(seq(102)), seq(102), false)
	keepsNot(t, d, 100)
	keeps(t, d, 101, second)
	sends(t, d, later(seq(103)), seq(103), false)
	keeps(t, d, 101, second)
	sends(t, d, later(seq(104)), seq(104), false)
	keepsNot(t, d, 101)
}

// Who asks again counts nothing, and changes nothing.
func TestAgainChangesNothing(t *testing.T) {
	d := newDown(t, 2)
	sends(t, d, whole(seq(100)), seq(100), false)
	sends(t, d, later(seq(101)), seq(101), false)
	for range 100 {
		d.Again(100)
		d.Again(7)
	}
	if d.Count() != (down.Count{Sent: 2}) {
		t.Error(d.Count())
	}
	sends(t, d, later(seq(102)), seq(102), false)
	keepsNot(t, d, 100)
	if d.SSRC() != ssrc {
		t.Error(d.SSRC())
	}
}

func TestTwoShareNothing(t *testing.T) {
	one, other := stream(t), down.New(5, 9)
	if one.SSRC() != ssrc || other.SSRC() != 5 || other.Count() != (down.Count{}) {
		t.Error(one.SSRC(), other.SSRC(), other.Count())
	}
	keepsNot(t, other, 100)
	refuses(t, other, later(seq(101)), left, true)
	sends(t, other, whole(seq(300)), seq(300), false)
	sends(t, one, later(seq(101)), seq(101), false)
	keepsNot(t, one, 300)
}

// P14.5

// row goes through packets: what is sent of them has Seqs one behind the other, one SSRC, and nothing else that is another one than in the packet that came; each is counted once.
func row(t *testing.T, d *down.Down, l []came) {
	t.Helper()
	all, next, sentAny := 0, uint16(0), false
	for i, c := range l {
		b, sent, asks := d.Take(c.p, c.from, c.layer, c.want, c.muted)
		if asks && c.muted {
			t.Fatalf("packet %d: a whole frame is asked for, though muted", i)
		}
		all++
		if !sent {
			continue
		}
		p, err := rtp.Parse(b)
		if err != api.OK || p.SSRC != ssrc || sentAny && p.Seq != next {
			t.Fatalf("packet %d of %+v: %+v, %v, not Seq %d", i, l, p, err, next)
		}
		if c.muted || c.p.Type > 127 {
			t.Fatalf("packet %d: %+v is sent", i, c)
		}
		x, _, _ := vp8.Parse(p.Payload)
		if want := asSent(t, c.p, ssrc, munge.Nums{Seq: p.Seq, Time: p.Time, Pic: x.Pic, Tl0: x.Tl0}); !bytes.Equal(b, want) {
			t.Fatalf("packet %d: %v, not %v", i, b, want)
		}
		next, sentAny = p.Seq+1, true
	}
	if n := d.Count(); n.Sent+n.Left+n.Dropped+n.Late+n.Bad != all {
		t.Fatalf("%d packets are counted as %+v", all, n)
	}
}

// kinds are what may come of a number, be it sent or not.
func kinds() []func(munge.Nums) came {
	to := func(c came) came { return of(wants(c, 2, 2, 1), 2, 2) }
	return []func(munge.Nums) came{
		whole, later, high, highLater,
		func(n munge.Nums) came { return bad(later(n)) },
		func(n munge.Nums) came { return bad(begin(n)) },
		func(n munge.Nums) came { return mute(later(n)) },
		func(n munge.Nums) came { return of(whole(n), 1, 1) },
		func(n munge.Nums) came { return to(whole(n)) },
		func(n munge.Nums) came { return to(later(n)) },
		func(n munge.Nums) came { return bad(to(later(n))) },
		func(n munge.Nums) came { return wants(later(n), 2, 2, 1) },
	}
}

// inTurn are packets of those kinds; the ones of each source and layer have numbers one behind the other, from one that it has by itself on.
func inTurn(kinds []func(munge.Nums) came, from func() int) []came {
	var l []came
	at := map[[2]int]int{}
	for _, kind := range kinds {
		c := kind(munge.Nums{})
		place := [2]int{c.from, c.layer}
		n, known := at[place]
		if !known {
			n = from()
		}
		at[place] = n + 1
		l = append(l, kind(munge.Nums{Seq: uint16(n), Time: uint32(n) * 500, Pic: uint16(n) & 32767, Tl0: uint8(n)}))
	}
	return l
}

// All rows of five packets behind a whole frame, over the end of the numbers.
func TestEachRow(t *testing.T) {
	all := kinds()
	for pick := range len(all) * len(all) * len(all) * len(all) * len(all) {
		l := []func(munge.Nums) came{whole}
		for range 5 {
			l = append(l, all[pick%len(all)])
			pick /= len(all)
		}
		row(t, newDown(t, 4), inTurn(l, func() int { return 65533 }))
	}
}

// Longer rows by chance.
func TestManyRows(t *testing.T) {
	chance := rand.New(rand.NewPCG(14, 1))
	all := kinds()
	for range 300 {
		var l []func(munge.Nums) came
		for range 400 {
			l = append(l, all[chance.IntN(len(all))])
		}
		row(t, newDown(t, 16), inTurn(l, func() int { return chance.IntN(65536) }))
	}
}

// The same packets, by a downtrack written plainly

// plain is one: all that was sent is in a list.
type plain struct {
	room   int
	choice choose.State
	nums   munge.State
	seqs   []uint16
	sent   [][]byte
	count  down.Count
}

// take is what is sent of a packet, in the order of the chapter's words; nil, if nothing is.
func (d *plain) take(t *testing.T, c came) ([]byte, bool) {
	if c.muted {
		d.choice.On = false
		d.count.Left++
		return nil, false
	}
	b := d.pass(t, c)
	return b, d.choice.Asks(c.want)
}

func (d *plain) pass(t *testing.T, c came) []byte {
	x, _, err := vp8.Parse(c.p.Payload)
	_, err2 := rtp.Put(c.p)
	if err != api.OK || err2 != api.OK {
		d.count.Bad++
		if d.choice.On && c.from == d.choice.From && c.layer == d.choice.Layer {
			d.nums = d.nums.Drop(munge.Nums{Seq: c.p.Seq}, false)
		}
		return nil
	}
	var what int
	d.choice, what = d.choice.Take(choose.In{
		From: c.from, Layer: c.layer, Begin: vp8.Begins(x), Whole: vp8.Whole(c.p.Payload),
		HasTid: x.HasTid, Tid: int(x.Tid), Sync: x.Sync,
	}, c.want)
	in := munge.Nums{Seq: c.p.Seq, Time: c.p.Time, Pic: x.Pic, Tl0: x.Tl0}
	var out munge.Nums
	if what == choose.Leave {
		d.count.Left++
		return nil
	}
	if what == choose.Drop {
		d.nums = d.nums.Drop(in, vp8.Begins(x))
		d.count.Dropped++
		return nil
	}
	if what == choose.Switch {
		d.nums, out = d.nums.Switch(in, 3000)
	}
	if what == choose.Send {
		told := false
		if d.nums, out, told = d.nums.Send(in); !told {
			d.count.Late++
			return nil
		}
	}
	b := asSent(t, c.p, ssrc, out)
	d.count.Sent++
	d.seqs, d.sent = append(d.seqs, out.Seq), append(d.sent, b)
	return b
}

// again is what was sent last of a Seq, among the last ones; nil, if it wasn't.
func (d *plain) again(seq uint16) []byte {
	for i := len(d.sent) - 1; i >= max(0, len(d.sent)-d.room); i-- {
		if d.seqs[i] == seq {
			return d.sent[i]
		}
	}
	return nil
}

// anyPacket is one as chance has it, near a number.
func anyPacket(chance *rand.Rand, n int) came {
	often := func() bool { return chance.IntN(2) == 0 }
	x := vp8.Desc{Start: often(), Lone: often(), More: chance.IntN(8) > 0}
	if chance.IntN(4) == 0 {
		x.Part = uint8(chance.IntN(8))
	}
	if x.More {
		x.HasPic, x.HasTl0, x.HasTid, x.HasKey = often(), often(), often(), often()
		x.Wide = x.HasPic && often()
	}
	switch {
	case x.Wide:
		x.Pic = uint16(n) & 32767
	case x.HasPic:
		x.Pic = uint16(n) & 127
	}
	if x.HasTl0 {
		x.Tl0 = uint8(n)
	}
	if x.HasTid {
		x.Tid, x.Sync = uint8(chance.IntN(4)), often()
	}
	body := make([]byte, chance.IntN(4))
	for i := range body {
		body[i] = byte(chance.Uint32())
	}
	c := came{
		p:    packet(munge.Nums{Seq: uint16(n), Time: uint32(n)*400 + chance.Uint32N(900)}, x, body...),
		from: chance.IntN(2), layer: chance.IntN(2), muted: chance.IntN(40) == 0,
		want: choose.Want{From: chance.IntN(2), Layer: chance.IntN(2), Tid: chance.IntN(4)},
	}
	switch chance.IntN(20) {
	case 0:
		c.p.Type = 128
	case 1:
		c.p.Payload = short[chance.IntN(len(short))]
	case 2:
		c.p.Pad = chance.IntN(258) - 1
	case 3:
		c.p.CSRC = make([]uint32, chance.IntN(18))
	case 4:
		c.p.Exts = items(chance.IntN(16))
	case 5:
		c.p.Mark = true
	}
	return c
}

func TestManyPackets(t *testing.T) {
	chance := rand.New(rand.NewPCG(14, 2))
	for range 300 {
		room := 1 + chance.IntN(8)
		d, plain := newDown(t, room), plain{room: room}
		n, changes := chance.IntN(65536), 1+chance.IntN(60)
		want := choose.Want{Tid: 3}
		for range 500 {
			n += chance.IntN(6) - 1
			c := anyPacket(chance, n)
			if chance.IntN(changes) == 0 {
				want = c.want
			}
			c.want = want
			if chance.IntN(4) > 0 {
				c.from, c.layer = want.From, want.Layer
			}
			was := copied(c.p)
			b, sent, asks := d.Take(c.p, c.from, c.layer, c.want, c.muted)
			if wantB, wantAsks := plain.take(t, c); !bytes.Equal(b, wantB) || sent != (wantB != nil) || asks != wantAsks {
				t.Fatalf("%+v: %v, %t, %t, not %v, %t", c, b, sent, asks, wantB, wantAsks)
			}
			if !reflect.DeepEqual(c.p, was) {
				t.Fatalf("the packet that came is %+v, not %+v", c.p, was)
			}
			if d.Count() != plain.count {
				t.Fatalf("%+v: the count is %+v, not %+v", c, d.Count(), plain.count)
			}
			for _, seq := range append(plain.seqs[max(0, len(plain.seqs)-room-2):], uint16(n)) {
				if b, ok := d.Again(seq); !bytes.Equal(b, plain.again(seq)) || ok != (plain.again(seq) != nil) {
					t.Fatalf("again %d: %v, %t, not %v", seq, b, ok, plain.again(seq))
				}
			}
		}
	}
}

// Numbers far outside the limits: some answer, and no panic.
func TestOddPlaces(t *testing.T) {
	far := []int{math.MinInt, -1, 0, 1, math.MaxInt}
	for _, from := range far {
		for _, layer := range far {
			for _, tid := range far {
				d := newDown(t, 1)
				c := of(wants(whole(seq(1)), from, layer, tid), from, layer)
				d.Take(c.p, c.from, c.layer, c.want, false)
				d.Take(c.p, c.from, c.layer, choose.Want{From: tid, Layer: from, Tid: layer}, false)
				d.Take(rtp.Packet{}, tid, from, c.want, false)
			}
		}
	}
}

// The chapter's example

func TestExampleOfTheChapter(t *testing.T) {
	d := newDown(t, 9)
	c := rich(whole(seq(100)))
	as, err := rtp.Put(c.p)
	if err != api.OK {
		t.Fatal(err)
	}
	copy(as[8:], []byte{128, 0, 0, 7})
	if b := sends(t, d, c, seq(100), false); !bytes.Equal(b, as) {
		t.Fatalf("%v, not %v", b, as)
	}
}

func ExampleDown() {
	d := down.New(2147483648, 64)
	want := choose.Want{From: 1}
	p := rtp.Packet{Head: rtp.Head{Type: 96, Seq: 100, Time: 9000, SSRC: 5}, Payload: []byte{144, 128, 5, 50}}
	b, sent, asks := d.Take(p, 1, 0, want, false)
	fmt.Println(b, sent, asks)
	again, ok := d.Again(100)
	fmt.Println(bytes.Equal(again, b), ok)
	fmt.Println(d.SSRC(), d.Count().Sent)
	// Output:
	// [128 96 0 100 0 0 35 40 128 0 0 0 144 128 5 50] true false
	// true true
	// 2147483648 1
}
