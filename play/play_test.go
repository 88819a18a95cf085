package play

import (
	"bytes"
	"fmt"
	"strings"
	"testing"

	"muniment/api"
	"muniment/desk"
	"muniment/lit"
	"muniment/plain"
	"muniment/sample"
	"muniment/wire"
)

func frames(t *testing.T, all ...api.Request) []byte {
	t.Helper()
	var out []byte
	for _, q := range all {
		b, e := wire.PutRequest(q)
		if e != api.OK {
			t.Fatal("PutRequest", e)
		}
		out = append(out, b...)
	}
	return out
}

func parse(s string) api.Val {
	v, e := lit.Parse(s)
	if e != api.OK {
		panic(s)
	}
	return v
}

func told(s plain.State) string {
	var out []string
	for _, c := range s.Colls {
		line := c.Name
		for _, d := range c.Docs {
			text, _ := lit.Text(d)
			line += " " + text
		}
		out = append(out, line+fmt.Sprint(c.Indexes))
	}
	return strings.Join(out, "; ")
}

// small tells the chapter's plan.
func small(t *testing.T) Plan {
	return Plan{Pages: 64, Log: 1 << 16, Frames: 24, Sessions: 1, Picks: []int{1, 1}, Fuse: -1, Again: -1,
		Input: [][]byte{frames(t, api.Request{Do: plain.Make, Coll: "a"}, api.Request{Do: plain.Add, Coll: "a", Doc: parse(`{"_id": 1}`)})}}
}

// The chapter's examples.
func TestExamples(t *testing.T) {
	p := small(t)
	r := Run(p)
	if n, _, _ := wire.Split(r.Out[0]); n != 2 || r.Picks != 2 || r.Died || told(r.State) != `a {"_id": 1}[]` || !plain.Equal(r.State, r.Twice) || r.Audit != api.OK || r.E != api.OK {
		t.Error("to the end", r)
	}
	p.Fuse = 0
	if r := Run(p); !r.Died || r.Picks != 0 || len(r.Out) != 1 || len(r.Out[0]) != 0 || told(r.State) != "" || r.E != api.OK {
		t.Error("fuse 0", r)
	}
}

// P22.1: errors of the plan itself.
func TestErrors(t *testing.T) {
	for i, change := range []func(p *Plan){
		func(p *Plan) { p.Pages = 0 }, func(p *Plan) { p.Log = -1 }, func(p *Plan) { p.Frames = 23 }, func(p *Plan) { p.Sessions = 0 }, func(p *Plan) { p.Sessions = 9 },
	} {
		p := small(t)
		change(&p)
		if r := Run(p); r.E != api.ErrArg || r.Out != nil || r.Picks != 0 || r.Died || len(r.State.Colls) != 0 {
			t.Error("case", i, r)
		}
	}
	p := small(t)
	p.Pages = 15
	if r := Run(p); r.E != api.ErrFull {
		t.Error("too few pages", r.E)
	}
	p = small(t)
	p.Input = append(p.Input, []byte{1}, []byte{2})
	p.Picks = []int{1, 99, 0, -99, 1}
	if r := Run(p); r.Picks != 5 || told(r.State) != `a {"_id": 1}[]` || r.E != api.OK {
		t.Error("picks that do nothing", r)
	}
	p.Input[0] = make([]byte, 65537)
	if r := Run(p); r.Picks != 5 || r.E != api.OK {
		t.Error("too much input", r)
	}
}

// busy tells a plan of three sessions.
func busy(t *testing.T, src *sample.Source) Plan {
	p := Plan{Pages: 200, Log: 1 << 15, Frames: 24, Sessions: 3, Fuse: -1, Again: -1}
	for s := range 3 {
		var all []api.Request
		if s == 0 {
			all = append(all, api.Request{Do: plain.Make, Coll: "a"}, api.Request{Do: plain.Index, Coll: "a", Index: "i", Path: "x", Unique: true})
		}
		open := false
		for range 30 {
			id := api.Val{Kind: api.Int, N: uint64(src.Below(9))}
			q := api.Request{Do: plain.Put + src.Below(4), Coll: "a", Key: id, N: 3, Doc: api.Val{Kind: api.Doc, F: []api.Field{{Name: "_id", V: id}, {Name: "x", V: api.Val{Kind: api.Int, N: uint64(src.Below(20))}}, {Name: "f", V: api.Val{Kind: api.Bytes, B: src.Bytes(src.Below(300))}}}}}
			switch k := src.Below(8); {
			case k < 2 && !open:
				q.Do, open = desk.Begin, true
			case k < 2:
				q.Do, open = desk.Commit, false
			case k == 2 && open:
				q.Do, open = desk.Abort, false
			case k == 3:
				q.Do = plain.Find
			}
			all = append(all, q)
		}
		p.Input = append(p.Input, frames(t, all...))
	}
	for range 150 {
		p.Picks = append(p.Picks, src.Below(9)-5)
		p.Picks = append(p.Picks, 1+src.Below(3))
	}
	return p
}

// P22.2: whatever the fuse, what was told is a beginning, and Twice is State.
func TestCrashes(t *testing.T) {
	for seed := range uint64(5) {
		src := sample.New(seed)
		p := busy(t, src)
		whole := Run(p)
		if whole.E != api.OK || whole.Died || whole.Picks != len(p.Picks) || whole.Audit != api.OK {
			t.Fatal("to the end", whole.E, whole.Picks, whole.Audit)
		}
		before, picks := make([]int, 3), 0
		for fuse := 0; ; fuse += 2 {
			p.Fuse, p.Choice, p.Again = fuse, src.Bytes(40), src.Below(20)-3
			r := Run(p)
			if r.E != api.OK || r.Audit != api.OK || !plain.Equal(r.State, r.Twice) || r.Picks < picks {
				t.Fatal("seed", seed, "fuse", fuse, r.E, r.Audit, r.Picks, told(r.State), told(r.Twice))
			}
			picks = r.Picks
			for i, out := range r.Out {
				if !bytes.HasPrefix(whole.Out[i], out) || len(out) < before[i] {
					t.Fatal("what was told is no beginning")
				}
				before[i] = len(out)
			}
			// the same picks to the end, without a death
			q := p
			q.Fuse, q.Choice, q.Again, q.Picks = -1, nil, -1, p.Picks[:r.Picks]
			same := Run(q)
			ok := plain.Equal(same.State, r.State)
			if r.Died {
				q.Picks = p.Picks[:r.Picks+1]
				ok = ok || plain.Equal(Run(q).State, r.State)
			}
			if !ok {
				t.Fatal("seed", seed, "fuse", fuse, "left", told(r.State), "want", told(same.State))
			}
			if !r.Died {
				break
			}
		}
	}
}

// P22.2: frames, and picks below 0, are not seen.
func TestBelow(t *testing.T) {
	for seed := range uint64(4) {
		p := busy(t, sample.New(seed+50))
		p.Log = 1 << 18
		first := Run(p)
		p.Frames = 200
		second := Run(p)
		for i, n := range p.Picks {
			p.Picks[i] = max(n, 0)
		}
		third := Run(p)
		for i := range first.Out {
			if !bytes.Equal(first.Out[i], second.Out[i]) || !bytes.Equal(first.Out[i], third.Out[i]) {
				t.Fatal("what lies below is seen")
			}
		}
	}
}
