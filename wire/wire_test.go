package wire

import (
	"bytes"
	"fmt"
	"strings"
	"testing"

	"muniment/api"
	"muniment/sample"
	"muniment/sum"
)

// summed tells a frame of that body, whatever the body is.
func summed(body ...byte) []byte {
	out := append([]byte{77, 68, byte(len(body)), byte(len(body) >> 8)}, body...)
	return number(out, 4, uint64(sum.Of(out)))
}

// P19.1: the bytes, and refusals.
func TestPut(t *testing.T) {
	b, e := PutReply(api.Reply{})
	if e != api.OK || len(b) != 18 || !bytes.Equal(b, summed(make([]byte, 10)...)) {
		t.Error("an empty reply", b, e)
	}
	null := api.Val{Kind: api.Null}
	b, _ = PutReply(api.Reply{E: 255, N: 258, Cursor: 1<<31 - 1, Docs: []api.Val{null}})
	if !bytes.Equal(b, summed(255, 2, 1, 0, 0, 255, 255, 255, 127, 1, 1, 0, 1)) {
		t.Error("a reply", b)
	}
	b, _ = PutRequest(api.Request{Do: 7, Coll: "a", Index: "bc", Unique: true, N: -2, Low: null})
	if !bytes.Equal(b, summed(7, 1, 1, 97, 2, 98, 99, 0, 254, 255, 255, 255, 0, 1, 1, 0, 1, 0, 0)) {
		t.Error("a request", b)
	}
	bad, long := api.Val{Kind: 9}, strings.Repeat("x", 201)
	big := api.Val{Kind: api.Bytes, B: make([]byte, 4000)}
	for i, c := range []struct {
		r api.Request
		e api.Errno
	}{
		{api.Request{Do: -1}, 1}, {api.Request{Do: 256, Key: bad}, 1}, {api.Request{Do: 255}, 0}, {api.Request{Coll: long}, 1}, {api.Request{Index: long}, 1}, {api.Request{Path: long, Doc: bad}, 1}, {api.Request{Path: long[1:]}, 0},
		{api.Request{N: 1 << 31}, 1}, {api.Request{N: -1<<31 - 1}, 1}, {api.Request{N: -1 << 31}, 0}, {api.Request{N: 1<<31 - 1}, 0}, {api.Request{High: bad}, 4}, {api.Request{Doc: api.Val{Kind: api.Bytes, B: make([]byte, 5000)}}, 2},
		{api.Request{Key: api.Val{N: 7}}, 0}, {api.Request{Key: big, Low: big}, 0}, {api.Request{Key: big, Low: big, High: big}, 2},
	} {
		if b, e := PutRequest(c.r); e != c.e || e != 0 && b != nil {
			t.Errorf("request %d: %d, want %d", i, e, c.e)
		}
	}
	for i, c := range []struct {
		r api.Reply
		e api.Errno
	}{
		{api.Reply{E: -1}, 1}, {api.Reply{E: 256}, 1}, {api.Reply{N: -1}, 1}, {api.Reply{N: 1 << 31}, 1}, {api.Reply{Cursor: -1}, 1}, {api.Reply{Cursor: 1 << 31}, 1}, {api.Reply{Docs: make([]api.Val, 65)}, 1},
		{api.Reply{N: 1<<31 - 1, Cursor: 1<<31 - 1, E: 255}, 0}, {api.Reply{Docs: make([]api.Val, 64)}, 4}, {api.Reply{Docs: []api.Val{big, big}}, 0}, {api.Reply{Docs: []api.Val{big, big, big}}, 2},
	} {
		if b, e := PutReply(c.r); e != c.e || e != 0 && b != nil {
			t.Errorf("reply %d: %d, want %d", i, e, c.e)
		}
	}
}

// P19.1: a body of just 12000 bytes.
func TestGreatest(t *testing.T) {
	doc := func(n int) api.Val { return api.Val{Kind: api.Bytes, B: make([]byte, n)} }
	at := api.Reply{Docs: []api.Val{doc(4093), doc(4093), doc(12000 - 10 - 3*5 - 2*4093)}}
	b, e := PutReply(at)
	if e != api.OK || len(b) != 12008 {
		t.Error("12000 bytes", len(b), e)
	}
	if _, n, e := GetReply(b); n != 12008 || e != api.OK {
		t.Error("GetReply", n, e)
	}
	at.Docs[2] = doc(12000 - 10 - 3*5 - 2*4093 + 1)
	if _, e := PutReply(at); e != api.ErrBig {
		t.Error("12001 bytes", e)
	}
}

// P19.2: what is no frame.
func TestGet(t *testing.T) {
	good, _ := PutReply(api.Reply{})
	turned := bytes.Clone(good)
	turned[6] ^= 1
	for i, c := range []struct {
		b []byte
		n int
		e api.Errno
	}{
		{good, 18, 0}, {good[:5], 0, 17}, {nil, 0, 17}, {[]byte{77}, 0, 17}, {[]byte{77, 1}, 0, 4}, {[]byte{1}, 0, 4}, {[]byte{77, 68, 255, 255}, 0, 2}, {[]byte{77, 68, 255}, 0, 17}, {[]byte{77, 68, 225, 46}, 0, 2}, {[]byte{77, 68, 224, 46}, 0, 17},
		{turned, 18, 8}, {append(bytes.Clone(turned), 1), 18, 8}, {turned[:17], 0, 17}, {append(bytes.Clone(good), 9, 9), 18, 0}, {summed(), 8, 4}, {summed(make([]byte, 9)...), 17, 4}, {summed(make([]byte, 11)...), 19, 4},
		{summed(0, 0, 0, 0, 128, 0, 0, 0, 0, 0), 18, 4}, {summed(0, 0, 0, 0, 0, 0, 0, 0, 128, 0), 18, 4}, {summed(0, 255, 255, 255, 127, 255, 255, 255, 127, 0), 18, 0}, {summed(append(make([]byte, 9), 65)...), 18, 4}, {summed(append(make([]byte, 9), 1, 1, 0, 9)...), 21, 4}, {summed(append(make([]byte, 9), 1, 1, 0, 1)...), 21, 0},
	} {
		r, n, e := GetReply(c.b)
		if n != c.n || e != c.e || e != 0 && (r.N != 0 || r.Docs != nil) {
			t.Errorf("reply %d: %d %d, want %d %d", i, n, e, c.n, c.e)
		}
	}
	for i, c := range []struct {
		body []byte
		e    api.Errno
	}{
		{make([]byte, 13), 0}, {make([]byte, 12), 4}, {make([]byte, 14), 4}, {[]byte{0, 2, 0, 0, 0, 0, 0, 0, 0, 0, 0, 0, 0}, 4}, {[]byte{9, 1, 0, 0, 0, 0, 0, 0, 128, 0, 0, 0, 0}, 0}, {[]byte{0, 0, 0, 0, 0, 0, 0, 0, 0, 2, 0, 0, 0}, 4},
		{append(append([]byte{0, 0, 201}, make([]byte, 201)...), make([]byte, 10)...), 4}, {append(append([]byte{0, 0, 200}, make([]byte, 200)...), make([]byte, 10)...), 0}, {[]byte{0, 0, 0, 0, 0, 0, 0, 0, 0, 1, 0, 0, 0, 0, 0}, 4},
	} {
		b := summed(c.body...)
		r, n, e := GetRequest(b)
		if n != len(b) || e != c.e || e != 0 && fmt.Sprint(r) != fmt.Sprint(api.Request{}) {
			t.Errorf("request %d: %d %d, want %d", i, n, e, c.e)
		}
	}
	if r, _, _ := GetRequest(summed(9, 1, 0, 0, 0, 0, 0, 0, 128, 0, 0, 0, 0)); r.N != -1<<31 || r.Do != 9 || !r.Unique {
		t.Error("a number below 0", r)
	}
}

// P19.3: Split.
func TestSplit(t *testing.T) {
	good, _ := PutReply(api.Reply{})
	two := append(bytes.Clone(good), good...)
	for i, c := range []struct {
		b            []byte
		frames, rest int
		e            api.Errno
	}{
		{append(bytes.Clone(two), 77), 2, 1, 17}, {two, 2, 0, 0}, {nil, 0, 0, 0}, {append(bytes.Clone(two), 1, 2), 2, 2, 4}, {append(bytes.Clone(good), 77, 68, 255, 255, 0), 1, 5, 2}, {append(bytes.Clone(good), append(bytes.Clone(good[:17]), 9)...), 1, 18, 8}, {summed(1, 2, 3), 1, 0, 0},
	} {
		if f, rest, e := Split(c.b); f != c.frames || rest != c.rest || e != c.e {
			t.Errorf("case %d: %d %d %d", i, f, rest, e)
		}
	}
}

// P19.4: Get of Put, and bits that are turned.
func TestRoundTrip(t *testing.T) {
	s := sample.New(8)
	for range 1500 {
		q := api.Request{Do: s.Below(256), Coll: string(s.Bytes(s.Below(20))), Index: "i", Path: string(s.Bytes(s.Below(200))), Unique: s.Below(2) == 0, N: int(int32(s.Next())), Key: s.Value(2), Doc: s.Value(3)}
		b, e := PutRequest(q)
		if e != api.OK {
			t.Fatal(e)
		}
		got, n, e := GetRequest(append(bytes.Clone(b), s.Bytes(s.Below(9))...))
		if e != api.OK || n != len(b) || fmt.Sprint(got) != fmt.Sprint(q) {
			t.Fatalf("%v became %v (%d)", q, got, e)
		}
		p := api.Reply{E: api.Errno(s.Below(256)), N: int(s.Next() >> 33), Cursor: int(s.Next() >> 40)}
		for range s.Below(5) {
			p.Docs = append(p.Docs, s.Value(2))
		}
		c, _ := PutReply(p)
		back, n, e := GetReply(append(bytes.Clone(c), s.Bytes(s.Below(9))...))
		if e != api.OK || n != len(c) || fmt.Sprint(back) != fmt.Sprint(p) {
			t.Fatalf("%v became %v (%d)", p, back, e)
		}
		b[s.Below(len(b))] ^= 1 << s.Below(8)
		if _, _, e := GetRequest(b); e == api.OK {
			t.Fatal("a bit turned is not told")
		}
	}
}
