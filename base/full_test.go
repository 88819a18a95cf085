package base

import (
	"fmt"
	"testing"

	"muniment/api"
	"muniment/plain"
	"muniment/sample"
	"muniment/space"
)

// crowd is a base on a small device, as full as it may be without ErrFull.
type crowd struct {
	t    *testing.T
	b    *Base
	src  *sample.Source
	size map[string]int // bytes of each document and its entries, by collection and number
	sum  int
	most int // bytes of all documents and entries
	fat  int
}

func newCrowd(t *testing.T, seed uint64, pages, log, colls, indexes int) *crowd {
	c := &crowd{t: t, src: sample.New(seed), size: map[string]int{}, most: pages * 512 / 32, fat: 1 + int(seed%3)*150}
	c.b = opened(t, device(t, pages, log), 24)
	for i := range colls {
		must(t, c.b, api.Request{Do: plain.Make, Coll: fmt.Sprint("c", i)})
		for j := range indexes {
			must(t, c.b, api.Request{Do: plain.Index, Coll: fmt.Sprint("c", i), Index: fmt.Sprint("i", j), Path: fmt.Sprint("x", j)})
		}
	}
	return c
}

// change does a change that keeps to the bound; it tells how many documents and entries changed.
func (c *crowd) change(id uint64, coll, indexes int) (int, int) {
	n := c.src.Below(300)
	name := fmt.Sprint("c", coll)
	who := fmt.Sprint(name, ".", n)
	key := api.Val{Kind: api.Int, N: uint64(n)}
	r := api.Request{Do: plain.Put, Coll: name, Key: key}
	r.Doc = api.Val{Kind: api.Doc, F: []api.Field{{Name: "_id", V: key}}}
	bytes, changed := 24+13, 1+2*indexes
	for j := range indexes {
		r.Doc.F = append(r.Doc.F, api.Field{Name: fmt.Sprint("x", j), V: api.Val{Kind: api.Int, N: c.src.Next() % 50}})
		bytes += 12 + 26
	}
	if c.src.Below(3) == 0 {
		fat := c.src.Below(c.fat)
		r.Doc.F = append(r.Doc.F, api.Field{Name: "f", V: api.Val{Kind: api.Bytes, B: c.src.Bytes(fat)}})
		bytes += fat + 5
	}
	had := c.size[who]
	if c.sum-had+bytes > c.most || c.src.Below(3) == 0 {
		r.Do, bytes = plain.Take, 0
	}
	if r.Do == plain.Take && had == 0 {
		return 0, 0
	}
	if got := c.b.Do(id, r); got.E != api.OK {
		used, _ := space.Used(c.b.s)
		c.t.Fatal("request", r.Do, "is refused:", got.E, "pages", len(used), "bytes", c.sum, "ops", len(c.b.works[id].ops))
	}
	c.size[who] = bytes
	c.sum += bytes - had
	return changed, max(bytes, had)
}

// P16.5: ErrFull is not told as long as so much is left as the chapter says.
func TestNotFull(t *testing.T) {
	for seed := range uint64(12) {
		indexes := int(seed % 3)
		colls := 12 / (1 + indexes)
		c := newCrowd(t, seed, 256, 1<<18, colls, indexes)
		var before map[string]int
		for round := range 60 {
			id, _ := c.b.Begin()
			coll, changed, bytes, sum := c.src.Below(colls), 0, 0, c.sum
			before = map[string]int{}
			for k, v := range c.size {
				before[k] = v
			}
			for changed < 32-1-2*indexes && bytes < 4096-700 {
				n, m := c.change(id, coll, indexes)
				changed += n
				bytes += m
				if n == 0 {
					bytes += 200
				}
			}
			if round%3 == 1 {
				if e := c.b.Abort(id); e != api.OK {
					t.Fatal("Abort", e)
				}
				c.size, c.sum = before, sum
			} else if e := c.b.Commit(id); e != api.OK {
				t.Fatal("Commit", e)
			}
		}
		exact(t, c.b)
	}
}

// P16.5: a transaction that is active for long does not fill the log.
func TestLongTransaction(t *testing.T) {
	c := newCrowd(t, 5, 256, 1<<18, 2, 1)
	long, _ := c.b.Begin()
	before, _ := c.b.State()
	for range 5 {
		c.change(long, 0, 1)
	}
	for range 1500 {
		id, _ := c.b.Begin()
		c.change(id, 1, 1)
		if e := c.b.Commit(id); e != api.OK {
			t.Fatal("Commit", e)
		}
	}
	if e := c.b.Abort(long); e != api.OK {
		t.Fatal("Abort", e)
	}
	if now, _ := c.b.State(); !plain.Equal(plain.State{Colls: now.Colls[:1]}, plain.State{Colls: before.Colls[:1]}) {
		t.Error("it is not undone")
	}
	exact(t, c.b)
}

// P16.5: what was dropped gives its pages back, though nobody tidies.
func TestDropped(t *testing.T) {
	b := opened(t, device(t, 256, 1<<18), 24)
	src := sample.New(3)
	most := 0
	for range 200 {
		must(t, b, api.Request{Do: plain.Make, Coll: "a"})
		must(t, b, api.Request{Do: plain.Index, Coll: "a", Index: "i", Path: "_id"})
		for i := range 5 {
			must(t, b, api.Request{Do: plain.Put, Coll: "a", Doc: api.Val{Kind: api.Doc, F: []api.Field{{Name: "_id", V: api.Val{Kind: api.Int, N: uint64(i)}}, {Name: "f", V: api.Val{Kind: api.Bytes, B: src.Bytes(600)}}}}})
		}
		must(t, b, api.Request{Do: plain.Drop, Coll: "a"})
		graves, _ := b.Graves()
		most = max(most, len(graves))
	}
	if most < 10 {
		t.Error("graves are dug though there are pages enough", most)
	}
	exact(t, b)
}

// P16.2, R3: an index for which there is no room leaves nothing, not even a grave.
func TestIndexFull(t *testing.T) {
	b := opened(t, device(t, 48, 1<<16), 24)
	must(t, b, api.Request{Do: plain.Make, Coll: "a"})
	for i := range 300 {
		doc := api.Val{Kind: api.Doc, F: []api.Field{{Name: "_id", V: api.Val{Kind: api.Int, N: uint64(i)}}, {Name: "x", V: api.Val{Kind: api.Bytes, B: append(make([]byte, 20), byte(i+1))}}}}
		if r := one(t, b, api.Request{Do: plain.Put, Coll: "a", Doc: doc}); r.E != api.OK {
			t.Fatal("Put", r.E)
		}
		if left, _ := space.Left(b.s); left < 6+8 {
			break
		}
	}
	before := state(t, b)
	used, _ := space.Used(b.s)
	for range 3 {
		if r := one(t, b, api.Request{Do: plain.Index, Coll: "a", Index: "i", Path: "x"}); r.E != api.ErrFull {
			t.Fatal("Index", r.E)
		}
		graves, _ := b.Graves()
		trees, _ := b.Trees()
		pages, _ := space.Used(b.s)
		if state(t, b) != before || len(graves) != 0 || len(trees) != 1 || len(pages) != len(used) {
			t.Error("something is left", graves, trees, len(pages), len(used))
		}
	}
	exact(t, b)
}

// Beyond all bounds ErrFull is told, nothing is changed by it, and Abort has what it needs.
func TestFull(t *testing.T) {
	for _, log := range []int{6000, 1 << 14, 1 << 18} {
		b := opened(t, device(t, 64, log), 24)
		one(t, b, api.Request{Do: plain.Make, Coll: "a"})
		one(t, b, api.Request{Do: plain.Index, Coll: "a", Index: "i", Path: "f"})
		before := state(t, b)
		src := sample.New(uint64(log))
		id, _ := b.Begin()
		full := 0
		for i := range 300 {
			was := state(t, b)
			used, _ := space.Used(b.s)
			doc := api.Val{Kind: api.Doc, F: []api.Field{{Name: "_id", V: api.Val{Kind: api.Int, N: uint64(i % 100)}}, {Name: "f", V: api.Val{Kind: api.Bytes, B: src.Bytes(src.Below(60))}}, {Name: "g", V: api.Val{Kind: api.Bytes, B: src.Bytes(src.Below(900))}}}}
			switch r := b.Do(id, api.Request{Do: plain.Put, Coll: "a", Doc: doc}); r.E {
			case api.OK:
			case api.ErrFull:
				now, _ := space.Used(b.s)
				if full++; state(t, b) != was || len(now) != len(used) {
					t.Fatal("ErrFull changes something")
				}
			case api.ErrKey:
			default:
				t.Fatal("Put", r.E)
			}
		}
		if e := b.Abort(id); e != api.OK || full == 0 {
			t.Fatal("Abort", e, full)
		}
		if state(t, b) != before {
			t.Error("undone")
		}
		exact(t, b)
	}
}
