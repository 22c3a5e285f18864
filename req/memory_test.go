package req_test

import (
	"bytes"
	"slices"
	"testing"

	"louver/api"
	"louver/delta"
	"louver/req"
)

// Each call goes through one of these helpers, which holds it against the chapter's words, and looks after memory.

// What stands behind the ends of lists that are handed in, and what lists are written over with.
const (
	markSSRC, otherSSRC = uint32(4000000081), uint32(3000000091)
	markByte, otherByte = byte(0xa7), byte(0x5b)
)

// spare is how many marks there are.
const spare = 6

// roomy is a list in other memory that has marks behind its end.
func roomy[T any](l []T, mark T) []T {
	long := slices.Clone(l)
	for range spare {
		long = append(long, mark)
	}
	return long[:len(l)]
}

// untouched tells whether a roomy list is as it was, with its marks.
func untouched[T comparable](t *testing.T, in, was []T, mark T) {
	t.Helper()
	if !slices.Equal(in, was) {
		t.Fatalf("handed in: %v, which was %v", in, was)
	}
	for _, x := range in[:len(in)+spare][len(in):] {
		if x != mark {
			t.Fatal("what stands behind the end was written over")
		}
	}
}

// over writes over all of a list, and over what stands behind its end.
func over[T any](l []T, x T) {
	for i := range l[:cap(l)] {
		l[:cap(l)][i] = x
	}
}

// sameReq tells whether two requests are the same; nil and empty lists are one.
func sameReq(a, b delta.Req) bool {
	return a.Kind == b.Kind && a.Who == b.Who && a.Room == b.Room && a.Rights == b.Rights &&
		a.Track == b.Track && a.Layer == b.Layer && a.Tid == b.Tid && slices.Equal(a.SSRCs, b.SSRCs)
}

// did puts a request.
func did(t *testing.T, id uint64, q delta.Req) ([]byte, api.Errno) {
	t.Helper()
	in := q
	in.SSRCs = roomy(q.SSRCs, markSSRC)
	want, wantErr := plainPut(id, q)
	got, err := req.Put(id, in)
	if !bytes.Equal(got, want) || err != wantErr {
		t.Fatalf("Put of %d, %+v: %v, error %d, not %v, %d", id, q, got, err, want, wantErr)
	}
	again, _ := req.Put(id, in)
	over(again, otherByte)
	untouched(t, in.SSRCs, q.SSRCs, markSSRC)
	if !bytes.Equal(got, want) {
		t.Fatalf("behind writing over what was told again: %v, not %v", got, want)
	}
	over(in.SSRCs, otherSSRC)
	if !bytes.Equal(got, want) {
		t.Fatalf("behind writing over what was handed in: %v, not %v", got, want)
	}
	return got, err
}

// read parses bytes.
func read(t *testing.T, b []byte) (uint64, delta.Req, api.Errno) {
	t.Helper()
	in := roomy(b, markByte)
	wantId, want, wantErr := plainParse(b)
	id, got, err := req.Parse(in)
	if id != wantId || !sameReq(got, want) || err != wantErr {
		t.Fatalf("Parse of %v: %d, %+v, error %d, not %d, %+v, %d", b, id, got, err, wantId, want, wantErr)
	}
	_, again, _ := req.Parse(in)
	over(again.SSRCs, otherSSRC)
	untouched(t, in, b, markByte)
	if !sameReq(got, want) {
		t.Fatalf("behind writing over what was told again: %+v, not %+v", got, want)
	}
	over(in, otherByte)
	if !sameReq(got, want) {
		t.Fatalf("behind writing over what was handed in: %+v, not %+v", got, want)
	}
	return id, got, err
}

// puts puts a request, to just those bytes.
func puts(t *testing.T, id uint64, q delta.Req, want ...byte) {
	t.Helper()
	if b, err := did(t, id, q); !bytes.Equal(b, want) || err != api.OK {
		t.Fatalf("Put of %d, %+v: %v, error %d, not %v", id, q, b, err, want)
	}
}

// putFails puts a request, to nothing but ErrArg.
func putFails(t *testing.T, id uint64, q delta.Req) {
	t.Helper()
	if b, err := did(t, id, q); len(b) != 0 || err != api.ErrArg {
		t.Fatalf("Put of %d, %+v: %v, error %d, not ErrArg", id, q, b, err)
	}
}

// parses parses bytes, to just that request.
func parses(t *testing.T, b []byte, wantId uint64, want delta.Req) {
	t.Helper()
	if id, q, err := read(t, b); id != wantId || !sameReq(q, want) || err != api.OK {
		t.Fatalf("Parse of %v: %d, %+v, error %d, not %d, %+v", b, id, q, err, wantId, want)
	}
}

// parseFails parses bytes, to nothing but that error.
func parseFails(t *testing.T, want api.Errno, b []byte) {
	t.Helper()
	if id, q, err := read(t, b); id != 0 || !sameReq(q, delta.Req{}) || err != want {
		t.Fatalf("Parse of %v: %d, %+v, error %d, not %d", b, id, q, err, want)
	}
}

// both puts a request, and parses it as it was.
func both(t *testing.T, id uint64, q delta.Req) []byte {
	t.Helper()
	b, err := did(t, id, q)
	if err != api.OK {
		t.Fatalf("Put of %d, %+v: error %d", id, q, err)
	}
	parses(t, b, id, q)
	return b
}

// answers tells an answer, to just those bytes, and is told it again, by its rest.
func answers(t *testing.T, id uint64, e api.Errno, rest byte) []byte {
	t.Helper()
	got, again := req.Answer(id, e), req.Answer(id, e)
	over(again, otherByte)
	want := plainAnswer(id, e)
	if !bytes.Equal(got, want) || want[8] != rest {
		t.Fatalf("Answer of %d, %d: %v, not %v", id, int(e), got, want)
	}
	if toldId, told, is := tells(t, got); toldId != id || told != api.Errno(rest) || !is {
		t.Fatalf("Told of %v: %d, %d, %v", got, toldId, told, is)
	}
	return got
}

// tells is told an answer.
func tells(t *testing.T, b []byte) (uint64, api.Errno, bool) {
	t.Helper()
	in := roomy(b, markByte)
	id, e, is := req.Told(in)
	wantId, wantErr, wantIs := plainTold(b)
	if id != wantId || e != wantErr || is != wantIs {
		t.Fatalf("Told of %v: %d, %d, %v, not %d, %d, %v", b, id, e, is, wantId, wantErr, wantIs)
	}
	untouched(t, in, b, markByte)
	return id, e, is
}
