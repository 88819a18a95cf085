package base

import (
	"testing"

	"muniment/api"
	"muniment/plain"
	"muniment/space"
)

// fatDoc tells a document of about so many bytes.
func fatDoc(n, fat int) api.Val {
	return api.Val{Kind: api.Doc, F: []api.Field{{Name: "_id", V: api.Val{Kind: api.Int, N: uint64(n)}}, {Name: "f", V: api.Val{Kind: api.Bytes, B: make([]byte, fat)}}}}
}

func putFat(t *testing.T, b *Base, n, fat int) {
	t.Helper()
	must(t, b, api.Request{Do: plain.Put, Coll: "a", Doc: fatDoc(n, fat)})
}

func takeOut(t *testing.T, b *Base, n int) {
	t.Helper()
	must(t, b, api.Request{Do: plain.Take, Coll: "a", Key: api.Val{Kind: api.Int, N: uint64(n)}})
}

func inUse(t *testing.T, b *Base) int {
	t.Helper()
	used, e := space.Used(b.s)
	if e != api.OK {
		t.Fatal("Used", e)
	}
	return len(used)
}

func graveCount(t *testing.T, b *Base) int {
	t.Helper()
	graves, e := b.Graves()
	if e != api.OK {
		t.Fatal("Graves", e)
	}
	return len(graves)
}

// dugOut digs till no grave is left, and tells how often.
func dugOut(t *testing.T, b *Base) int {
	t.Helper()
	for n := 1; n < 1000; n++ {
		before := inUse(t, b)
		more, e := b.Dig()
		if e != api.OK || before-inUse(t, b) > 8 {
			t.Fatal("Dig", e, before, inUse(t, b))
		}
		exact(t, b)
		if !more {
			return n
		}
	}
	t.Fatal("Dig does not end")
	return 0
}

// P16.4: what is not used any more of documents' chains lies in a grave, which Dig frees; P16.5: all pages are given back.
func TestWaste(t *testing.T) {
	d := device(t, 256, 1<<18)
	b := opened(t, d, 24)
	must(t, b, api.Request{Do: plain.Make, Coll: "a"})
	putFat(t, b, 0, 100)
	empty := inUse(t, b)
	for _, how := range []func(){
		func() { takeOut(t, b, 1) },
		func() { putFat(t, b, 1, 10); takeOut(t, b, 1) },
		func() { putFat(t, b, 1, 4000); takeOut(t, b, 1); putFat(t, b, 1, 200); takeOut(t, b, 1) },
		func() { takeOut(t, b, 1); b.s.Force(b.s.Log().End()); b = opened(t, b.s.Disk().Crash(nil), 24) },
	} {
		putFat(t, b, 1, 2000)
		if how(); graveCount(t, b) != 1 || inUse(t, b) < empty+6 {
			t.Error("no grave", graveCount(t, b), inUse(t, b))
		}
		if exact(t, b); dugOut(t, b) < 1 || graveCount(t, b) != 0 || inUse(t, b) != empty {
			t.Error("pages are not given back", inUse(t, b), empty)
		}
	}
	// undone: the document is there, whatever lies in the grave, also if that is dug first
	putFat(t, b, 1, 2000)
	was, used := state(t, b), inUse(t, b)
	for _, dig := range []bool{false, true} {
		id, _ := b.Begin()
		r := b.Do(id, api.Request{Do: plain.Take, Coll: "a", Key: api.Val{Kind: api.Int, N: 1}})
		if dig {
			dugOut(t, b)
		}
		if e := b.Abort(id); r.E != api.OK || e != api.OK || state(t, b) != was {
			t.Error("undone", r.E, e)
		}
		if exact(t, b); !dig && graveCount(t, b) != 1 || dig && graveCount(t, b) != 0 {
			t.Error("graves of what was undone", graveCount(t, b))
		}
		if dugOut(t, b); inUse(t, b) != used {
			t.Error("pages behind what was undone", inUse(t, b), used)
		}
	}
}

// What comes while a grave is dug is not lost, and waste does not grow for ever, not by crashes either.
func TestWasteGrows(t *testing.T) {
	b := opened(t, device(t, 256, 1<<18), 24)
	must(t, b, api.Request{Do: plain.Make, Coll: "a"})
	empty := inUse(t, b)
	for i := range 12 {
		putFat(t, b, i, 1500)
	}
	full := inUse(t, b)
	for i := range 12 {
		takeOut(t, b, 11-i)
		if i%3 == 1 {
			b.Dig()
		}
		exact(t, b)
	}
	if dugOut(t, b); inUse(t, b) != empty {
		t.Error("pages are not given back", inUse(t, b), empty)
	}
	for i := range 12 {
		putFat(t, b, i, 1500)
	}
	for i := range 300 {
		putFat(t, b, i%12, 1400+i%100)
		if n := inUse(t, b) - full; graveCount(t, b) != 1 || n > 256/16+4+4 {
			t.Fatal("waste grows", graveCount(t, b), n)
		}
		if i%20 == 19 {
			b = opened(t, b.s.Disk().Crash(nil), 24)
		}
	}
	exact(t, b)
}

// P16.5: a base that is full of waste is full of nothing.
func TestFullOfWaste(t *testing.T) {
	b := opened(t, device(t, 64, 1<<18), 24)
	must(t, b, api.Request{Do: plain.Make, Coll: "a"})
	n := 0
	for one(t, b, api.Request{Do: plain.Put, Coll: "a", Doc: fatDoc(n, 1900)}).E == api.OK {
		n++
	}
	if left, _ := space.Left(b.s); n < 8 || left > 14 {
		t.Error("it is not full", n, left)
	}
	takeOut(t, b, 0)
	// what is taken makes room for as much
	for i := range 40 {
		putFat(t, b, i%n, 1900)
		takeOut(t, b, (i+1)%n)
	}
	exact(t, b)
}

// R3, P16.2: what is refused for lack of room digs no grave; what graves have room for is not refused.
func TestRefusedBesideGraves(t *testing.T) {
	for _, log := range []int{6000, 1 << 18} {
		b := opened(t, device(t, 64, log), 24)
		must(t, b, api.Request{Do: plain.Make, Coll: "a"})
		must(t, b, api.Request{Do: plain.Make, Coll: "b"})
		must(t, b, api.Request{Do: plain.Put, Coll: "b", Doc: fatDoc(1, 600)})
		must(t, b, api.Request{Do: plain.Drop, Coll: "b"})
		id, _ := b.Begin()
		n, was, used, graves := 0, "", 0, 0
		for e := api.OK; e == api.OK; n++ {
			was, used, graves = state(t, b), inUse(t, b), graveCount(t, b)
			e = b.Do(id, api.Request{Do: plain.Put, Coll: "a", Doc: fatDoc(n, 900)}).E
		}
		if log == 1<<18 && graves != 0 {
			t.Error("graves are left, though pages are lacking", graves)
		}
		if log == 6000 && graves == 0 {
			t.Error("graves are dug, though the log lacks room")
		}
		if n < 4 || state(t, b) != was || inUse(t, b) != used || graveCount(t, b) != graves {
			t.Error("what is refused changes something", n, inUse(t, b), used, graveCount(t, b), graves)
		}
		if e := b.Abort(id); e != api.OK {
			t.Error("Abort", e)
		}
		exact(t, b)
	}
}

// Graves that would not make room enough are not dug; those that would are.
func TestGravesHelp(t *testing.T) {
	b := opened(t, device(t, 40, 1<<18), 24)
	must(t, b, api.Request{Do: plain.Make, Coll: "a"})
	for i := range 6 {
		putFat(t, b, i, 1700)
	}
	id, _ := b.Begin()
	if r := b.Do(id, api.Request{Do: plain.Take, Coll: "a", Key: api.Val{Kind: api.Int, N: 2}}); r.E != api.OK || graveCount(t, b) != 1 {
		t.Error("Take", r.E, graveCount(t, b))
	}
	was, used := state(t, b), inUse(t, b)
	great := api.Request{Do: plain.Put, Coll: "a", Doc: fatDoc(9, 4000)}
	if r := b.Do(id, great); r.E != api.ErrFull || state(t, b) != was || inUse(t, b) != used || graveCount(t, b) != 1 {
		t.Error("beside what undoing needs", r.E, inUse(t, b), used, graveCount(t, b))
	}
	if e := b.Commit(id); e != api.OK {
		t.Error("Commit", e)
	}
	if must(t, b, great); graveCount(t, b) != 0 {
		t.Error("graves are not dug, though pages are lacking")
	}
	exact(t, b)
}
