package build

import (
	"bytes"
	"fmt"
	"slices"
	"testing"

	"muniment/api"
	"muniment/base"
	"muniment/disk"
	"muniment/lit"
	"muniment/plain"
	"muniment/sample"
	"muniment/space"
)

func opened(t *testing.T, pages int) *base.Base {
	t.Helper()
	d, _ := disk.New(pages, 1<<20)
	b, e := base.Open(d, 40)
	if e != api.OK {
		t.Fatal("Open", e)
	}
	return b
}

func parse(t *testing.T, s string) api.Val {
	t.Helper()
	v, e := lit.Parse(s)
	if e != api.OK {
		t.Fatal("no value", s)
	}
	return v
}

func one(t *testing.T, b *base.Base, r api.Request) api.Errno {
	t.Helper()
	id, _ := b.Begin()
	out := b.Do(id, r)
	b.Commit(id)
	return out.E
}

func put(t *testing.T, b *base.Base, doc string) {
	t.Helper()
	if e := one(t, b, api.Request{Do: plain.Put, Coll: "a", Doc: parse(t, doc)}); e != api.OK {
		t.Fatal("Put", e)
	}
}

// withDocs tells a base with a collection a of n documents whose x is half their number.
func withDocs(t *testing.T, n int) *base.Base {
	t.Helper()
	b := opened(t, 600)
	one(t, b, api.Request{Do: plain.Make, Coll: "a"})
	for i := range n {
		put(t, b, fmt.Sprintf(`{"_id": %d, "x": %d}`, i, i/2))
	}
	return b
}

var def = plain.IndexDef{Name: "i", Path: "x"}

// exact holds the index against the documents.
func exact(t *testing.T, b *base.Base, x plain.IndexDef) {
	t.Helper()
	s, _ := b.State()
	want, _ := plain.Entries(s.Colls[0], x)
	if got, e := b.Entries("a", x.Name); e != api.OK || !slices.EqualFunc(got, want, bytes.Equal) {
		t.Fatal("the index is not exact", len(got), len(want), e)
	}
}

// P17.1: Start.
func TestStart(t *testing.T) {
	b := withDocs(t, 1)
	one(t, b, api.Request{Do: plain.Index, Coll: "a", Index: "j", Path: "y"})
	for _, c := range []struct {
		coll string
		x    plain.IndexDef
		e    api.Errno
	}{{"z", plain.IndexDef{}, 4}, {"z", plain.IndexDef{Name: "i", Path: string(make([]byte, 201))}, 2}, {"z", def, 5}, {"a", plain.IndexDef{Name: "j"}, 6}} {
		if x, e := Start(b, c.coll, c.x); x != nil || e != c.e {
			t.Error("Start", c, e)
		}
	}
	x, e := Start(b, "a", def)
	if e != api.OK {
		t.Fatal("Start", e)
	}
	if _, e := Start(b, "a", plain.IndexDef{Name: "k", Path: "x"}); e != api.ErrBusy {
		t.Error("two builds", e)
	}
	if x.Cancel() != api.OK || x.Cancel() != api.ErrState {
		t.Error("Cancel")
	}
	if _, e := b.Noted("a"); e != api.ErrState {
		t.Error("nothing is noted behind Cancel", e)
	}
	for i := range 7 {
		one(t, b, api.Request{Do: plain.Index, Coll: "a", Index: fmt.Sprint("k", i), Path: "y"})
	}
	if _, e := Start(b, "a", def); e != api.ErrLimit {
		t.Error("a ninth index", e)
	}
	if _, e := Start(nil, "a", def); e == api.OK {
		t.Error("no base")
	}
	var nobody *Build
	if _, e := nobody.Step(); e != api.ErrState || nobody.Publish() != api.ErrState {
		t.Error("no build")
	}
}

// P17.2: steps of 8 documents, lag, catching up.
func TestSteps(t *testing.T) {
	b := withDocs(t, 20)
	x, _ := Start(b, "a", def)
	if x.Publish() != api.ErrState {
		t.Error("Publish ahead of Step")
	}
	for i, want := range []bool{false, false, true, true} {
		if done, e := x.Step(); done != want || e != api.OK {
			t.Error("Step", i, done, e)
		}
	}
	if n, e := x.Lag(); n != 0 || e != api.OK {
		t.Error("Lag", n, e)
	}
	put(t, b, `{"_id": 3, "x": 77}`)
	put(t, b, `{"_id": 1}`)
	one(t, b, api.Request{Do: plain.Take, Coll: "a", Key: parse(t, "9")})
	put(t, b, `{"_id": 50, "x": 1}`)
	if n, _ := x.Lag(); n != 4 {
		t.Error("Lag", n)
	}
	for _, n := range []int{0, -1} {
		if c, e := x.Catch(n); c != 0 || e != api.ErrArg {
			t.Error("Catch", n, e)
		}
	}
	for _, c := range [][2]int{{1, 1}, {2, 2}, {3, 1}, {3, 0}} {
		if n, e := x.Catch(c[0]); n != c[1] || e != api.OK {
			t.Error("Catch", c, n, e)
		}
	}
	if _, e := b.Entries("a", "i"); e != api.ErrName {
		t.Error("it is seen ahead of Publish", e)
	}
	if e := x.Publish(); e != api.OK {
		t.Error("Publish", e)
	}
	exact(t, b, def)
	put(t, b, `{"_id": 60, "x": 1}`)
	exact(t, b, def)
	_, e1 := x.Step()
	_, e2 := x.Lag()
	_, e3 := x.Catch(0)
	if e1 != api.ErrState || e2 != api.ErrState || e3 != api.ErrState || x.Publish() != api.ErrState || x.Cancel() != api.ErrState {
		t.Error("a build that is over", e1, e2, e3)
	}
}

func TestExactlyEight(t *testing.T) {
	x, _ := Start(withDocs(t, 8), "a", def)
	for _, want := range []bool{false, true} {
		if done, _ := x.Step(); done != want {
			t.Error("Step of 8 documents")
		}
	}
}

// P17.3: what Publish refuses.
func TestPublish(t *testing.T) {
	unique := plain.IndexDef{Name: "u", Path: "x", Unique: true}
	b := withDocs(t, 6)
	x, _ := Start(b, "a", unique)
	x.Step()
	id, _ := b.Begin()
	b.Do(id, api.Request{Do: plain.Put, Coll: "a", Doc: parse(t, `{"_id": 1}`)})
	if e := x.Publish(); e != api.ErrState {
		t.Error("a transaction changed the collection", e)
	}
	b.Abort(id)
	if e := x.Publish(); e != api.ErrUnique {
		t.Error("two documents of one value", e)
	}
	if graves, _ := b.Graves(); len(graves) != 1 || x.Publish() != api.ErrState {
		t.Error("it is over, and its tree a grave", graves)
	}
	x, e := Start(b, "a", unique)
	if e != api.OK {
		t.Fatal("Start again", e)
	}
	x.Step()
	for i := range 6 {
		put(t, b, fmt.Sprintf(`{"_id": %d, "x": %d}`, i, i))
	}
	long := string(bytes.Repeat([]byte("y"), 90))
	put(t, b, `{"_id": 9, "x": "`+long+`"}`)
	if e := x.Publish(); e != api.ErrKey {
		t.Error("an entry that is too long", e)
	}
	put(t, b, `{"_id": 9, "x": f7ff8000000000000}`)
	x, _ = Start(b, "a", unique)
	x.Step()
	put(t, b, `{"_id": 9, "x": "`+long+`"}`)
	x.Catch(9)
	put(t, b, `{"_id": 9, "x": 9}`)
	if e := x.Publish(); e != api.OK {
		t.Error("Publish", e)
	}
	exact(t, b, unique)
	if e := one(t, b, api.Request{Do: plain.Add, Coll: "a", Doc: parse(t, `{"_id": 77, "x": 9}`)}); e != api.ErrUnique {
		t.Error("it is unique", e)
	}
}

// P17.4: whatever is done between the steps, undone too, what is published is exact; behind a crash ahead of that it is not there.
func TestWhatever(t *testing.T) {
	for seed := range uint64(25) {
		src := sample.New(seed)
		b := withDocs(t, 30+src.Below(20))
		x, e := Start(b, "a", def)
		if e != api.OK {
			t.Fatal(e)
		}
		id, _ := b.Begin()
		done := false
		for range 60 {
			key := api.Val{Kind: api.Int, N: uint64(src.Below(60))}
			r := api.Request{Do: plain.Put + src.Below(3), Coll: "a", Key: key, Doc: api.Val{Kind: api.Doc, F: []api.Field{{Name: "_id", V: key}, {Name: "x", V: src.Value(1)}}}}
			switch src.Below(8) {
			case 0:
				more, _ := x.Step()
				done = done || more
			case 1:
				x.Catch(1 + src.Below(4))
			case 2:
				b.Abort(id)
				id, _ = b.Begin()
			case 3:
				b.Commit(id)
				id, _ = b.Begin()
			default:
				b.Do(id, r)
			}
			if _, e := b.Entries("a", "i"); e != api.ErrName {
				t.Fatal("it is seen")
			}
		}
		left, e := base.Open(b.Store().Disk().Crash(src.Bytes(50)), 40)
		if e != api.OK {
			t.Fatal(e)
		}
		if s, _ := left.State(); len(s.Colls[0].Indexes) != 0 {
			t.Fatal("behind a crash it is there")
		}
		b.Abort(id)
		for !done {
			done, _ = x.Step()
		}
		if e := x.Publish(); e != api.OK {
			t.Fatal("Publish", e)
		}
		exact(t, b, def)
	}
}

// Without pages ErrFull is told, and the build may go on when there are some again.
func TestFull(t *testing.T) {
	b := opened(t, 40)
	one(t, b, api.Request{Do: plain.Make, Coll: "a"})
	x, e := Start(b, "a", def)
	n := 0
	for ; n < 400; n++ {
		doc := api.Val{Kind: api.Doc, F: []api.Field{{Name: "_id", V: api.Val{Kind: api.Int, N: uint64(n)}}, {Name: "x", V: api.Val{Kind: api.Bytes, B: bytes.Repeat([]byte{byte(n + 1)}, 70)}}}}
		if e := one(t, b, api.Request{Do: plain.Put, Coll: "a", Doc: doc}); e != api.OK {
			break
		}
	}
	for e == api.OK {
		var done bool
		if done, e = x.Step(); done {
			t.Fatal("there is room enough", n)
		}
	}
	if e != api.ErrFull {
		t.Fatal("Step", e)
	}
	for k := 20; k < n; k++ {
		one(t, b, api.Request{Do: plain.Take, Coll: "a", Key: api.Val{Kind: api.Int, N: uint64(k)}})
	}
	used, _ := space.Used(b.Store())
	if _, e := x.Catch(1000); e != api.OK {
		t.Error("Catch", e, n, len(used))
	}
	for done := false; !done; {
		if done, e = x.Step(); e != api.OK {
			t.Fatal("Step", e)
		}
	}
	if e := x.Publish(); e != api.OK {
		t.Error("Publish", e)
	}
	exact(t, b, def)
}
