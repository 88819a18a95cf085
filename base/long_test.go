package base

import (
	"fmt"
	"testing"

	"muniment/api"
	"muniment/plain"
	"muniment/sample"
	"muniment/space"
)

// P16.5: long transactions beside many short ones with great documents, on a log that is small for all that.
func TestLongBesideGreat(t *testing.T) {
	for seed := range uint64(3) {
		src := sample.New(seed)
		b := opened(t, device(t, 1024, 1<<18), 24)
		for _, name := range []string{"a", "b", "c"} {
			must(t, b, api.Request{Do: plain.Make, Coll: name})
			must(t, b, api.Request{Do: plain.Index, Coll: name, Index: "i", Path: "x"})
		}
		put := func(id uint64, coll string, n, fat int) {
			t.Helper()
			d := api.Val{Kind: api.Doc, F: []api.Field{{Name: "_id", V: api.Val{Kind: api.Int, N: uint64(n)}}, {Name: "x", V: api.Val{Kind: api.Int, N: src.Next() % 9}}, {Name: "f", V: api.Val{Kind: api.Bytes, B: src.Bytes(fat)}}}}
			if r := b.Do(id, api.Request{Do: plain.Put, Coll: coll, Doc: d}); r.E != api.OK {
				left, _ := space.Left(b.s)
				t.Fatal("Put", coll, n, fat, r.E, "left", left)
			}
		}
		for round := range 3 {
			ones, _ := b.State()
			long, _ := b.Begin()
			for n := range 18 {
				put(long, "a", n, 100)
			}
			other, _ := b.Begin()
			put(other, "c", 1, 800)
			for i := range 700 {
				id, _ := b.Begin()
				put(id, "b", i%4, 1500+src.Below(900))
				if i%9 == 8 {
					b.Abort(id)
				} else if e := b.Commit(id); e != api.OK {
					t.Fatal("Commit", e)
				}
				if i%100 == 50 {
					b.Checkpoint()
				}
			}
			if e := b.Abort(other); e != api.OK {
				t.Fatal("Abort", e)
			}
			if round == 1 {
				b.Commit(long)
				continue
			}
			if e := b.Abort(long); e != api.OK {
				t.Fatal("Abort", e)
			}
			now, _ := b.State()
			if fmt.Sprint(now.Colls[0]) != fmt.Sprint(ones.Colls[0]) || fmt.Sprint(now.Colls[2]) != fmt.Sprint(ones.Colls[2]) {
				t.Fatal("it is not undone")
			}
		}
		exact(t, b)
	}
}
