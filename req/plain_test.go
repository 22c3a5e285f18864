package req_test

import (
	"louver/api"
	"louver/delta"
)

// The chapter's words, written plainly: each byte by its own, from a number by division, and to a number by its place.

// headSize is how many bytes there are ahead of SSRCs: 8, 1, 2, 1, 1, 2, 1, 1 and 1.
const headSize = 18

// plainPut is a request's bytes.
func plainPut(id uint64, q delta.Req) ([]byte, api.Errno) {
	if q.Kind < 0 || q.Kind > 9 {
		return nil, api.ErrArg
	}
	if q.Who < 0 || q.Who > 65535 || q.Track < 0 || q.Track > 65535 {
		return nil, api.ErrArg
	}
	for _, n := range []int{q.Room, q.Rights, q.Layer, q.Tid} {
		if n < 0 || n > 255 {
			return nil, api.ErrArg
		}
	}
	if len(q.SSRCs) > 255 {
		return nil, api.ErrArg
	}
	b := make([]byte, headSize+4*len(q.SSRCs))
	for place := 7; place >= 0; place-- {
		b[place] = byte(id % 256)
		id /= 256
	}
	b[8] = byte(q.Kind)
	b[9], b[10] = byte(q.Who/256), byte(q.Who%256)
	b[11] = byte(q.Room)
	b[12] = byte(q.Rights)
	b[13], b[14] = byte(q.Track/256), byte(q.Track%256)
	b[15] = byte(q.Layer)
	b[16] = byte(q.Tid)
	b[17] = byte(len(q.SSRCs))
	for i, ssrc := range q.SSRCs {
		at := headSize + 4*i
		b[at], b[at+1], b[at+2], b[at+3] = byte(ssrc/16777216), byte(ssrc/65536%256), byte(ssrc/256%256), byte(ssrc%256)
	}
	return b, api.OK
}

// plainParse is the request of bytes.
func plainParse(b []byte) (uint64, delta.Req, api.Errno) {
	if len(b) < headSize {
		return 0, delta.Req{}, api.ErrShort
	}
	end := headSize + 4*int(b[17])
	if len(b) < end {
		return 0, delta.Req{}, api.ErrShort
	}
	if b[8] > 9 {
		return 0, delta.Req{}, api.ErrForm
	}
	if len(b) > end {
		return 0, delta.Req{}, api.ErrLeft
	}
	q := delta.Req{
		Kind: int(b[8]), Who: int(b[9])*256 + int(b[10]), Room: int(b[11]), Rights: int(b[12]),
		Track: int(b[13])*256 + int(b[14]), Layer: int(b[15]), Tid: int(b[16]),
	}
	for at := headSize; at < end; at += 4 {
		q.SSRCs = append(q.SSRCs, uint32(plainNumber(b[at:at+4])))
	}
	return plainNumber(b[:8]), q, api.OK
}

// plainAnswer is the bytes of an answer.
func plainAnswer(id uint64, e api.Errno) []byte {
	b := make([]byte, 9)
	for place := 7; place >= 0; place-- {
		b[place] = byte(id % 256)
		id /= 256
	}
	rest := int(e) % 256
	if rest < 0 {
		rest += 256
	}
	b[8] = byte(rest)
	return b
}

// plainTold is the answer of bytes.
func plainTold(b []byte) (uint64, api.Errno, bool) {
	if len(b) != 9 {
		return 0, 0, false
	}
	return plainNumber(b[:8]), api.Errno(b[8]), true
}

func plainNumber(b []byte) uint64 {
	n := uint64(0)
	for _, x := range b {
		n = n*256 + uint64(x)
	}
	return n
}
