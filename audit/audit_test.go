package audit

import (
	"fmt"
	"strings"
	"testing"

	"muniment/api"
	"muniment/base"
	"muniment/disk"
	"muniment/page"
	"muniment/plain"
	"muniment/sample"
	"muniment/space"
	"muniment/tidy"
	"muniment/tree"
)

func opened(t *testing.T, d *disk.Disk) *base.Base {
	t.Helper()
	b, e := base.Open(d, 40)
	if e != api.OK {
		t.Fatal("Open", e)
	}
	return b
}

func fresh(t *testing.T) *base.Base {
	t.Helper()
	d, _ := disk.New(500, 1<<18)
	return opened(t, d)
}

func one(t *testing.T, b *base.Base, r api.Request) {
	t.Helper()
	id, _ := b.Begin()
	if out := b.Do(id, r); out.E != api.OK {
		t.Fatal("request", r.Do, out.E)
	}
	b.Commit(id)
}

func doc(n, fat int) api.Val {
	return api.Val{Kind: api.Doc, F: []api.Field{{Name: "_id", V: api.Val{Kind: api.Int, N: uint64(n)}}, {Name: "x", V: api.Val{Kind: api.Int, N: uint64(n % 5)}}, {Name: "f", V: api.Val{Kind: api.Bytes, B: make([]byte, fat)}}}}
}

// kinds tells how many pages there are of each kind, with names.
func kinds(t *testing.T, b *base.Base) map[string]int {
	t.Helper()
	all, e := Owners(b)
	if e != api.OK {
		t.Fatal("Owners", e)
	}
	out := map[string]int{}
	for i, x := range all {
		out[strings.TrimSpace(fmt.Sprint(x.Kind, " ", x.Coll, " ", x.Index))]++
		if i > 0 && all[i-1].Page > x.Page {
			t.Error("pages do not rise")
		}
	}
	return out
}

// The chapter's example.
func TestFresh(t *testing.T) {
	b := fresh(t)
	if got := fmt.Sprint(kinds(t, b)); got != "map[1:2 2:1]" {
		t.Error("a fresh base", got)
	}
	if n, e := Need(b); n != 3 || e != api.OK || Check(b) != api.OK {
		t.Error("Need", n, e)
	}
	if _, e := Owners(nil); e == api.OK || Check(nil) == api.OK {
		t.Error("no base")
	}
}

// P21.1: kinds.
func TestOwners(t *testing.T) {
	b := fresh(t)
	one(t, b, api.Request{Do: plain.Make, Coll: "a"})
	one(t, b, api.Request{Do: plain.Index, Coll: "a", Index: "i", Path: "x"})
	for i := range 20 {
		one(t, b, api.Request{Do: plain.Put, Coll: "a", Doc: doc(i, 30+i*i*3)})
	}
	b.Raise()
	if got, want := kinds(t, b), map[string]int{"1": 2, "2": 1, "6": 1}; got["1"] != want["1"] || got["2"] != want["2"] || got["6"] != 1 || got["3 a"] < 2 || got["4 a i"] < 2 || got["5 a"] < 15 || len(got) != 6 {
		t.Error("kinds", got)
	}
	one(t, b, api.Request{Do: plain.Drop, Coll: "a"})
	for more := true; more; {
		if got := kinds(t, b); got["7"] < 1 || len(got) != 4 || Check(b) != api.OK {
			t.Error("graves", got, Check(b))
		}
		more, _ = b.Dig()
	}
	if got := fmt.Sprint(kinds(t, b)); got != "map[1:2 2:1 6:1]" {
		t.Error("dug", got)
	}
}

// within does something to a base's pages behind its back.
func within(t *testing.T, b *base.Base, do func(write func(n int, p []byte), root int)) api.Errno {
	t.Helper()
	one(t, b, api.Request{Do: plain.Make, Coll: "a"})
	one(t, b, api.Request{Do: plain.Index, Coll: "a", Index: "i", Path: "x"})
	for i := range 60 {
		one(t, b, api.Request{Do: plain.Put, Coll: "a", Doc: doc(i, 50)})
	}
	if e := Check(b); e != api.OK {
		t.Fatal("ahead", e)
	}
	root, _ := b.Root("a", "")
	g, _ := b.Store().Group()
	do(func(n int, p []byte) { g.Write(n, p) }, root)
	g.Done(api.Rec{Kind: 1})
	return Check(b)
}

// P21.1: what Check tells of.
func TestCheck(t *testing.T) {
	b := fresh(t)
	if e := within(t, b, func(write func(int, []byte), root int) {
		p, _ := b.Store().Read(root)
		q, _ := page.Remove(p, 1)
		write(root, q)
	}); e != api.ErrForm {
		t.Error("pages that are not reached", e)
	}
	b = fresh(t)
	if e := within(t, b, func(write func(int, []byte), root int) {
		p, _ := b.Store().Read(root)
		first, _ := page.Cell(p, 0)
		second, _ := page.Cell(p, 1)
		copy(second, first[:2])
		q, _ := page.Replace(p, 1, second)
		write(root, q)
	}); e != api.ErrForm {
		t.Error("a page that is reached twice", e)
	}
	for _, change := range []func(root int) api.Errno{
		func(root int) api.Errno {
			g, _ := b.Store().Group()
			k, _, _, _ := tree.Seek(g, root, nil)
			tree.Take(g, root, k)
			_, e := g.Done(api.Rec{Kind: 1})
			return e
		},
		func(root int) api.Errno {
			g, _ := b.Store().Group()
			tree.Put(g, root, []byte{1, 2, 3}, nil)
			_, e := g.Done(api.Rec{Kind: 1})
			return e
		},
		func(int) api.Errno {
			g, _ := b.Store().Group()
			space.Alloc(g)
			_, e := g.Done(api.Rec{Kind: 1})
			return e
		},
	} {
		b = fresh(t)
		within(t, b, func(func(int, []byte), int) {})
		root, _ := b.Root("a", "i")
		if e := change(root); e != api.OK {
			t.Fatal(e)
		}
		if e := Check(b); e != api.ErrForm {
			t.Error("entries that are none, a page that is lost", e)
		}
	}
	b.Store().Disk().Fuse(0)
	b.Clean()
	if e := Check(b); e != api.OK && e != api.ErrDead && e != api.ErrForm {
		t.Error("a dead device", e)
	}
}

// P21.2, T5: whatever a base was told, behind crashes too.
func TestWhatever(t *testing.T) {
	for seed := range uint64(10) {
		src := sample.New(seed)
		b := fresh(t)
		var ids []uint64
		trees := []int{0}
		for i := range 300 {
			coll := string(rune('a' + len(ids)%3))
			r := api.Request{Do: plain.Put, Coll: coll, Doc: doc(src.Below(40), src.Below(900)), Key: api.Val{Kind: api.Int, N: uint64(src.Below(40))}, Index: "i", Path: "x"}
			switch src.Below(14) {
			case 0:
				id, _ := b.Begin()
				r.Do = []int{plain.Make, plain.Make, plain.Index, plain.Drop}[src.Below(4)]
				b.Do(id, r)
				b.Commit(id)
			case 1:
				x, _ := b.Raise()
				trees = append(trees, x)
			case 2:
				b.Bury(trees[src.Below(len(trees))])
			case 3, 4:
				b.Enter(trees[len(trees)-1], src.Bytes(1+src.Below(90)), true)
			case 5:
				tidy.Step(b)
			case 6:
				id, _ := b.Begin()
				ids = append(ids, id)
			case 7:
				if len(ids) > 0 {
					b.Abort(ids[len(ids)-1])
					ids = ids[:len(ids)-1]
				}
			case 8:
				r.Do = plain.Take
				fallthrough
			default:
				if len(ids) > 0 {
					b.Do(ids[len(ids)-1], r)
				}
			}
			if e := Check(b); e != api.OK {
				t.Fatal("Check", seed, i, e)
			}
			if i%30 == 7 {
				left := opened(t, b.Store().Disk().Crash(src.Bytes(50)))
				if e := Check(left); e != api.OK {
					t.Fatal("behind a crash", e)
				}
			}
		}
	}
}
