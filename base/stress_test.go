package base

import (
	"bytes"
	"fmt"
	"testing"

	"muniment/api"
	"muniment/plain"
	"muniment/sample"
	"muniment/space"
	"muniment/val"
)

// kind of documents: how long the id, how fat the document, how many indexes
type shape struct{ id, fat, indexes, colls, keys int }

func docOf(src *sample.Source, sh shape, n int) api.Val {
	var id api.Val
	if sh.id == 0 {
		id = api.Val{Kind: api.Int, N: uint64(n)}
	} else {
		id = api.Val{Kind: api.Text, B: append(bytes.Repeat([]byte("k"), sh.id-4), fmt.Sprintf("%04d", n)...)}
	}
	d := api.Val{Kind: api.Doc, F: []api.Field{{Name: "_id", V: id}}}
	for j := range sh.indexes {
		d.F = append(d.F, api.Field{Name: fmt.Sprint("x", j), V: api.Val{Kind: api.Int, N: src.Next() % 1000}})
	}
	if sh.fat > 0 {
		d.F = append(d.F, api.Field{Name: "f", V: api.Val{Kind: api.Bytes, B: src.Bytes(sh.fat)}})
	}
	return d
}

func TestStress(t *testing.T) {
	for si, sh := range []shape{{0, 0, 0, 1, 1000}, {0, 0, 0, 12, 1000}, {80, 0, 0, 1, 1000}, {93, 0, 0, 3, 1000}, {0, 100, 0, 1, 500}, {0, 100, 1, 6, 500}, {0, 0, 3, 3, 500}, {0, 0, 8, 1, 500}, {40, 0, 2, 4, 500}, {0, 470, 0, 1, 99}, {0, 1000, 1, 1, 30}, {0, 3900, 0, 1, 5}, {60, 10, 2, 1, 400}} {
		for seed := range uint64(2) {
			src := sample.New(seed*100 + uint64(si))
			b := opened(t, device(t, 256, 1<<18), 24)
			for i := range sh.colls {
				must(t, b, api.Request{Do: plain.Make, Coll: fmt.Sprint("c", i)})
				for j := range sh.indexes {
					must(t, b, api.Request{Do: plain.Index, Coll: fmt.Sprint("c", i), Index: fmt.Sprint("i", j), Path: fmt.Sprint("x", j)})
				}
			}
			sizes := map[string]int{}
			sum := 0
			per := func(d api.Val) int {
				n, _ := val.Size(d)
				for j := range sh.indexes {
					e, _, _ := plain.Entry(plain.IndexDef{Path: fmt.Sprint("x", j)}, d)
					n += len(e)
				}
				return n
			}
			least := 1000
			for round := range 150 {
				id, _ := b.Begin()
				before := map[string]int{}
				for k, v := range sizes {
					before[k] = v
				}
				sumBefore := sum
				coll := src.Below(sh.colls)
				changed, bytesChanged := 0, 0
				phase := round / 10 % 3
				for tries := 0; tries < 60; tries++ {
					n := src.Below(sh.keys)
					if phase == 0 {
						n = (round*40 + tries) % sh.keys
					}
					d := docOf(src, sh, n)
					size := per(d)
					k := fmt.Sprint(coll, ".", n)
					r := api.Request{Do: plain.Put, Coll: fmt.Sprint("c", coll), Doc: d, Key: d.F[0].V}
					if phase == 2 || src.Below(4) == 0 || sum-sizes[k]+size > 4096 {
						r.Do = plain.Take
						size = 0
						if sizes[k] == 0 {
							continue
						}
					}
					add := 1 + sh.indexes
					if sizes[k] > 0 && size > 0 {
						add += sh.indexes
					}
					if changed+add > 32 || bytesChanged+max(size, sizes[k]) > 4096 {
						break
					}
					changed += add
					bytesChanged += max(size, sizes[k])
					if out := b.Do(id, r); out.E != api.OK {
						used, _ := space.Used(b.s)
						t.Fatal("shape", sh, "seed", seed, "round", round, "refused", out.E, "used", len(used), "sum", sum, "changed", changed)
					}
					sum += size - sizes[k]
					sizes[k] = size
					left, _ := space.Left(b.s)
					least = min(least, left)
				}
				if round%4 == 1 {
					if e := b.Abort(id); e != api.OK {
						t.Fatal("Abort", e)
					}
					sizes, sum = before, sumBefore
				} else if e := b.Commit(id); e != api.OK {
					t.Fatal("Commit", e)
				}
			}
			if seed == 0 {
				t.Log(sh, "least", least)
			}
		}
	}
}
