package dump

import (
	"bytes"
	"fmt"
	"testing"

	"muniment/api"
	"muniment/base"
	"muniment/disk"
	"muniment/lit"
	"muniment/plain"
	"muniment/sample"
	"muniment/sum"
	"muniment/wire"
)

func parse(s string) api.Val {
	v, e := lit.Parse(s)
	if e != api.OK {
		panic(s)
	}
	return v
}

func done(t *testing.T, s plain.State, all ...api.Request) plain.State {
	t.Helper()
	for _, r := range all {
		var p api.Reply
		if s, p = plain.Do(s, r); p.E != api.OK {
			t.Fatal("request", r.Do, p.E)
		}
	}
	return s
}

func makeA() api.Request { return api.Request{Do: plain.Make, Coll: "a"} }
func put(doc string) api.Request {
	return api.Request{Do: plain.Put, Coll: "a", Doc: parse(doc)}
}

func opened(t *testing.T, pages int) *base.Base {
	t.Helper()
	d, _ := disk.New(pages, 1<<18)
	b, e := base.Open(d, 40)
	if e != api.OK {
		t.Fatal("Open", e)
	}
	return b
}

// told tells requests as a text.
func told(all []api.Request) string {
	out := ""
	for _, r := range all {
		doc, _ := lit.Text(r.Doc)
		key, _ := lit.Text(r.Key)
		out += fmt.Sprint(r.Do, r.Coll, r.Index, r.Path, r.Unique, doc, key, "; ")
	}
	return out
}

// some tells a state that hangs on the seed.
func some(seed uint64) plain.State {
	src := sample.New(seed)
	var s plain.State
	for range 60 {
		coll := string(rune('a' + src.Below(3)))
		id := api.Val{Kind: api.Int, N: uint64(src.Below(9))}
		r := api.Request{Do: plain.Put + src.Below(3), Coll: coll, Key: id, Index: string(rune('i' + src.Below(3))), Path: string(rune('x' + src.Below(2))), Unique: src.Below(2) == 0}
		r.Doc = api.Val{Kind: api.Doc, F: []api.Field{{Name: "_id", V: id}, {Name: "x", V: api.Val{Kind: api.Int, N: uint64(src.Below(30))}}, {Name: "y", V: src.Value(1)}}}
		if src.Below(3) == 0 {
			r.Do = []int{plain.Make, plain.Make, plain.Index, plain.Index, plain.Unindex, plain.Drop}[src.Below(6)]
		}
		s, _ = plain.Do(s, r)
	}
	return s
}

// The chapter's examples, P24.1.
func TestBytes(t *testing.T) {
	b, e := Bytes(plain.State{})
	if !bytes.Equal(b, make([]byte, 4)) || e != api.OK {
		t.Error("the empty state", b, e)
	}
	if s, e := Read(b); len(s.Colls) != 0 || e != api.OK {
		t.Error("Read of that", e)
	}
	for _, b := range [][]byte{nil, {1}, {0, 0, 0}, {0, 0, 0, 1}} {
		if _, e := Read(b); e != api.ErrSum {
			t.Error("Read", b, e)
		}
	}
	s := done(t, plain.State{}, makeA(), put(`{"_id": 1}`), api.Request{Do: plain.Index, Coll: "a", Index: "i", Path: "x", Unique: true})
	var want []byte
	for _, r := range []api.Request{makeA(), put(`{"_id": 1}`), {Do: plain.Index, Coll: "a", Index: "i", Path: "x", Unique: true}} {
		f, _ := wire.PutRequest(r)
		want = append(want, f...)
	}
	n := sum.Of(want)
	want = append(want, byte(n), byte(n>>8), byte(n>>16), byte(n>>24))
	if b, e := Bytes(s); !bytes.Equal(b, want) || e != api.OK {
		t.Error("the dump's bytes", e)
	}
	s.Colls[0].Docs = append(s.Colls[0].Docs, api.Val{Kind: api.Bytes, B: make([]byte, 5000)})
	if b, e := Bytes(s); b != nil || e != api.ErrBig {
		t.Error("a document that wire refuses", e)
	}
	s.Colls[0].Docs = nil
	for range 4200 {
		s.Colls[0].Docs = append(s.Colls[0].Docs, api.Val{Kind: api.Bytes, B: make([]byte, 4000)})
	}
	if b, e := Bytes(s); b != nil || e != api.ErrBig {
		t.Error("more than 2^24 bytes", e)
	}
}

// P24.1: what is no dump.
func TestRead(t *testing.T) {
	x := api.Request{Do: plain.Index, Coll: "a", Index: "i", Path: "x", Unique: true}
	j := api.Request{Do: plain.Index, Coll: "a", Index: "j", Path: "x"}
	extra := makeA()
	extra.N = 5
	makeB := api.Request{Do: plain.Make, Coll: "b"}
	for i, c := range []struct {
		all []api.Request
		ok  bool
	}{
		{[]api.Request{makeA(), put(`{"_id": 1}`), put(`{"_id": 2}`), x, j, makeB}, true},
		{[]api.Request{put(`{"_id": 1}`)}, false}, {[]api.Request{makeA(), makeA()}, false}, {[]api.Request{makeB, makeA()}, false}, {[]api.Request{extra}, false}, {[]api.Request{makeA(), put(`{"_id": 2}`), put(`{"_id": 1}`)}, false},
		{[]api.Request{makeA(), put(`{"_id": 1}`), put(`{"_id": 1}`)}, false}, {[]api.Request{makeA(), x, put(`{"_id": 1}`)}, false}, {[]api.Request{makeA(), j, x}, false}, {[]api.Request{makeA(), x, x}, false},
		{[]api.Request{makeA(), put(`{"_id": 1, "x": 1}`), put(`{"_id": 2, "x": 1}`), x}, false}, {[]api.Request{makeA(), put(`{"_id": 1, "x": 1}`), put(`{"_id": 2, "x": 1}`), j}, true}, {[]api.Request{makeA(), put(`5`)}, false}, {[]api.Request{makeA(), put(`{"x": 1}`)}, false},
		{[]api.Request{makeA(), makeB, put(`{"_id": 1}`)}, false}, {[]api.Request{{Do: plain.Make}}, false}, {[]api.Request{makeA(), {Do: plain.Count, Coll: "a"}}, false},
	} {
		var b []byte
		for _, r := range c.all {
			f, e := wire.PutRequest(r)
			if e != api.OK {
				t.Fatal(e)
			}
			b = append(b, f...)
		}
		n := sum.Of(b)
		s, e := Read(append(b, byte(n), byte(n>>8), byte(n>>16), byte(n>>24)))
		if (e == api.OK) != c.ok || e != api.OK && e != api.ErrForm || e != api.OK && s.Colls != nil {
			t.Error("case", i, e)
		}
	}
	b := []byte{1, 2, 3}
	n := sum.Of(b)
	if _, e := Read(append(b, byte(n), byte(n>>8), byte(n>>16), byte(n>>24))); e != api.ErrForm {
		t.Error("bytes that are no frames", e)
	}
}

// P24.4: Read of Bytes is the state; one bit turned is told.
func TestRoundTrip(t *testing.T) {
	for seed := range uint64(40) {
		s := some(seed)
		b, e := Bytes(s)
		if e != api.OK {
			t.Fatal("Bytes", e)
		}
		if got, e := Read(b); e != api.OK || !plain.Equal(got, s) {
			t.Fatal("Read", seed, e)
		}
		src := sample.New(seed)
		b[src.Below(len(b))] ^= 1 << src.Below(8)
		if _, e := Read(b); e != api.ErrSum {
			t.Fatal("a bit turned", e)
		}
	}
}

// P24.2: Save and Load.
func TestSaveLoad(t *testing.T) {
	for seed := range uint64(15) {
		s := some(seed)
		data, _ := Bytes(s)
		b := opened(t, 600)
		if e := Load(b, data); e != api.OK {
			t.Fatal("Load", e)
		}
		if again, e := Save(b); e != api.OK || !bytes.Equal(again, data) {
			t.Fatal("Save", e)
		}
		left, e := base.Open(b.Store().Disk().Crash([]byte{9, 9, 9}), 40)
		if e != api.OK {
			t.Fatal(e)
		}
		if again, e := Save(left); e != api.OK || !bytes.Equal(again, data) {
			t.Fatal("behind a crash", e)
		}
	}
	b := opened(t, 100)
	id, _ := b.Begin()
	if _, e := Save(b); e != api.ErrBusy {
		t.Error("Save with a transaction", e)
	}
	empty, _ := Bytes(plain.State{})
	if Load(b, empty) != api.ErrBusy || Load(b, nil) != api.ErrSum {
		t.Error("Load with a transaction")
	}
	b.Do(id, makeA())
	if Load(b, empty) != api.ErrThere || Load(b, []byte{1}) != api.ErrSum {
		t.Error("Load into a base with a collection")
	}
	if _, e := Save(nil); e == api.OK || Load(nil, empty) == api.OK {
		t.Error("no base")
	}
}

// P24.2: a load that is refused leaves nothing.
func TestLoadFull(t *testing.T) {
	s := done(t, plain.State{}, makeA(), api.Request{Do: plain.Make, Coll: "b"})
	for i := range 60 {
		s = done(t, s, api.Request{Do: plain.Put, Coll: "b", Doc: api.Val{Kind: api.Doc, F: []api.Field{{Name: "_id", V: api.Val{Kind: api.Int, N: uint64(i)}}, {Name: "f", V: api.Val{Kind: api.Bytes, B: make([]byte, 900)}}}}})
	}
	data, _ := Bytes(s)
	b := opened(t, 64)
	if e := Load(b, data); e != api.ErrFull {
		t.Error("Load", e)
	}
	if s, e := b.State(); len(s.Colls) != 0 || e != api.OK {
		t.Error("what was loaded is there", e)
	}
}

// P24.3: the chapter's examples, and what is taken out and put in again.
func TestSteps(t *testing.T) {
	x := api.Request{Do: plain.Index, Coll: "a", Index: "i", Path: "x"}
	u := api.Request{Do: plain.Index, Coll: "a", Index: "u", Path: "x", Unique: true}
	one := done(t, plain.State{}, makeA(), put(`{"_id": 1}`))
	for i, c := range []struct {
		a, c plain.State
		want []api.Request
	}{
		{plain.State{}, done(t, one, x), []api.Request{makeA(), put(`{"_id": 1}`), x}},
		{done(t, one, put(`{"_id": 2}`)), done(t, plain.State{}, makeA(), put(`{"_id": 1, "x": 1}`)), []api.Request{put(`{"_id": 1, "x": 1}`), {Do: plain.Take, Coll: "a", Key: parse("2")}}},
		{done(t, one, x, u), done(t, one, x, u), nil},
		{done(t, one, x, u), done(t, one, x, u, put(`{"_id": 0}`)), []api.Request{{Do: plain.Unindex, Coll: "a", Index: "u"}, put(`{"_id": 0}`), u}},
		{done(t, one, x), done(t, one, api.Request{Do: plain.Index, Coll: "a", Index: "i", Path: "y"}), []api.Request{{Do: plain.Unindex, Coll: "a", Index: "i"}, {Do: plain.Index, Coll: "a", Index: "i", Path: "y"}}},
		{one, done(t, plain.State{}, api.Request{Do: plain.Make, Coll: "b"}), []api.Request{{Do: plain.Drop, Coll: "a"}, {Do: plain.Make, Coll: "b"}}},
	} {
		if got := told(Steps(c.a, c.c)); got != told(c.want) {
			t.Errorf("case %d: %s, want %s", i, got, told(c.want))
		}
	}
}

// P24.4: plain.Do of Steps turns a into c, each answered with OK.
func TestStepsLead(t *testing.T) {
	for seed := range uint64(150) {
		a, c := some(seed), some(seed+1+seed%3)
		s := done(t, a, Steps(a, c)...)
		if !plain.Equal(s, c) {
			t.Fatal("another state", seed)
		}
		if all := Steps(a, a); len(all) != 0 {
			t.Fatal("of a state and itself there are none", told(all))
		}
	}
}
