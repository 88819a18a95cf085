package tidy

import (
	"fmt"
	"testing"

	"muniment/api"
	"muniment/atom"
	"muniment/base"
	"muniment/disk"
	"muniment/plain"
	"muniment/sample"
	"muniment/space"
	"muniment/tree"
)

func opened(t *testing.T, d *disk.Disk) *base.Base {
	t.Helper()
	b, e := base.Open(d, 40)
	if e != api.OK {
		t.Fatal("Open", e)
	}
	return b
}

func fresh(t *testing.T) *base.Base {
	t.Helper()
	d, _ := disk.New(800, 1<<19)
	return opened(t, d)
}

func one(t *testing.T, b *base.Base, r api.Request) {
	t.Helper()
	id, _ := b.Begin()
	if out := b.Do(id, r); out.E != api.OK && out.E != api.ErrEnd {
		t.Fatal("request", r.Do, out.E)
	}
	b.Commit(id)
}

func number(n int) api.Val { return api.Val{Kind: api.Int, N: uint64(n)} }

func doc(n, fat int) api.Val {
	return api.Val{Kind: api.Doc, F: []api.Field{{Name: "_id", V: number(n)}, {Name: "x", V: number(n % 7)}, {Name: "f", V: api.Val{Kind: api.Bytes, B: make([]byte, fat)}}}}
}

func pages(b *base.Base) int {
	used, _ := space.Used(b.Store())
	return len(used)
}

// settled tells whether nothing is left that tidying could do.
func settled(t *testing.T, b *base.Base) {
	t.Helper()
	if graves, _ := b.Graves(); len(graves) > 0 {
		t.Error("graves are left", graves)
	}
	roots, _ := b.Trees()
	for _, root := range roots {
		for i, do := range []func(*atom.Group, int) (bool, api.Errno){tree.Join, tree.Move} {
			g, _ := b.Store().Group()
			if more, e := do(g, root); more || e != api.OK {
				t.Error("something is left to do", i, root, e)
			}
			g.Drop()
		}
	}
}

// The chapter's examples.
func TestExamples(t *testing.T) {
	b := fresh(t)
	if done, e := Step(b); done || e != api.OK {
		t.Error("Step of a fresh base", done, e)
	}
	at := pages(b)
	one(t, b, api.Request{Do: plain.Make, Coll: "a"})
	for i := range 40 {
		one(t, b, api.Request{Do: plain.Put, Coll: "a", Doc: doc(i, 50)})
	}
	for i := range 40 {
		one(t, b, api.Request{Do: plain.Take, Coll: "a", Key: number(i)})
	}
	if _, e := All(b, 1000); e != api.OK {
		t.Error("All", e)
	}
	if s, _ := b.State(); len(s.Colls[0].Docs) != 0 || pages(b) != at+1 {
		t.Error("pages in use", pages(b), at)
	}
	for _, most := range []int{0, -5} {
		if n, e := All(b, most); n != 0 || e != api.OK {
			t.Error("All of", most, n, e)
		}
	}
	for _, alone := range []bool{true, false} {
		putAndTaken(t, b, 40, alone)
		if n, e := All(b, 1000); n < 1 || e != api.OK {
			t.Error("All behind documents with chains: no steps", alone, n, e)
		}
		if s, _ := b.State(); len(s.Colls[0].Docs) != 0 || pages(b) != at+1 {
			t.Error("pages in use behind chains", alone, pages(b), at)
		}
		settled(t, b)
	}
	if _, e := Step(nil); e == api.OK {
		t.Error("no base")
	}
}

// putAndTaken puts documents of growing size, and takes them, each alone, or all in one transaction.
func putAndTaken(t *testing.T, b *base.Base, n int, alone bool) {
	t.Helper()
	id, _ := b.Begin()
	for i := range 2 * n {
		r := api.Request{Do: plain.Put, Coll: "a", Doc: doc(i, i*50)}
		if i >= n {
			r = api.Request{Do: plain.Take, Coll: "a", Key: number(i - n)}
		}
		if out := b.Do(id, r); out.E != api.OK {
			t.Fatal("request", r.Do, out.E)
		}
		if alone {
			b.Commit(id)
			id, _ = b.Begin()
		}
	}
	if e := b.Commit(id); e != api.OK {
		t.Fatal("Commit", e)
	}
}

// P18.1: All does no more than it is told.
func TestMost(t *testing.T) {
	b := fresh(t)
	one(t, b, api.Request{Do: plain.Make, Coll: "a"})
	for i := range 200 {
		one(t, b, api.Request{Do: plain.Put, Coll: "a", Doc: doc(i*37%200, 60)})
	}
	one(t, b, api.Request{Do: plain.Drop, Coll: "a"})
	for range 2 {
		before := pages(b)
		if n, e := All(b, 1); n != 1 || e != api.OK || before-pages(b) > 8 || before == pages(b) {
			t.Error("All of 1", n, e)
		}
	}
	n, e := All(b, 1<<30)
	if n < 2 || e != api.OK {
		t.Error("All", n, e)
	}
	settled(t, b)
	if n, e := All(b, 9); n != 0 || e != api.OK {
		t.Error("All of nothing", n, e)
	}
}

// P18.2: nothing that a base tells changes; what is active is undone all the same; a crash loses nothing.
func TestWhatever(t *testing.T) {
	for seed := range uint64(8) {
		src := sample.New(seed)
		b := fresh(t)
		empty := pages(b)
		one(t, b, api.Request{Do: plain.Make, Coll: "a"})
		one(t, b, api.Request{Do: plain.Index, Coll: "a", Index: "i", Path: "x"})
		var want plain.State
		id, sure := uint64(0), plain.State{}
		for i := range 400 {
			if i%50 == 0 {
				if i%100 == 0 {
					b.Commit(id)
				} else {
					b.Abort(id)
				}
				id, _ = b.Begin()
				sure, _ = b.State()
			}
			n := src.Below(120)
			r := api.Request{Do: plain.Put, Coll: "a", Key: number(n), Doc: doc(n, src.Below(300))}
			if src.Below(3) > 0 == (i/100%2 == 1) {
				r.Do = plain.Take
			}
			b.Do(id, r)
			if i%3 == 0 {
				want, _ = b.State()
				if _, e := Step(b); e != api.OK {
					t.Fatal("Step", e)
				}
				same(t, b, want)
			}
		}
		all, e := All(b, 1<<30)
		if e != api.OK {
			t.Fatal("All", e, all)
		}
		settled(t, b)
		left := opened(t, b.Store().Disk().Crash(src.Bytes(99)))
		same(t, left, sure)
		b.Abort(id)
		same(t, b, sure)
		one(t, b, api.Request{Do: plain.Drop, Coll: "a"})
		All(b, 1<<30)
		if pages(b) != empty {
			t.Error("pages in use behind the drop", pages(b), empty)
		}
	}
}

func same(t *testing.T, b *base.Base, want plain.State) {
	t.Helper()
	got, e := b.State()
	if e != api.OK || !plain.Equal(got, want) {
		t.Fatal("the state has changed", e)
	}
	for _, c := range want.Colls {
		for _, x := range c.Indexes {
			entries, _ := plain.Entries(c, x)
			if have, _ := b.Entries(c.Name, x.Name); fmt.Sprint(have) != fmt.Sprint(entries) {
				t.Fatal("entries have changed")
			}
		}
	}
}
