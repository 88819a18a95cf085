package hunt

import (
	"testing"

	"muniment/api"
	"muniment/desk"
	"muniment/lit"
	"muniment/plain"
	"muniment/play"
	"muniment/sample"
	"muniment/wire"
)

func frames(t *testing.T, all ...api.Request) []byte {
	t.Helper()
	var out []byte
	for _, q := range all {
		b, e := wire.PutRequest(q)
		if e != api.OK {
			t.Fatal("PutRequest", e)
		}
		out = append(out, b...)
	}
	return out
}

func add(id int) api.Request {
	return api.Request{Do: plain.Add, Coll: "a", Doc: api.Val{Kind: api.Doc, F: []api.Field{{Name: "_id", V: api.Val{Kind: api.Int, N: uint64(id)}}}}}
}

// small tells the plan of chapter 22.
func small(t *testing.T) play.Plan {
	return play.Plan{Pages: 64, Log: 1 << 16, Frames: 24, Sessions: 1, Picks: []int{1, 1}, Fuse: 77, Again: -1, Input: [][]byte{frames(t, api.Request{Do: plain.Make, Coll: "a"}, add(1))}}
}

// The chapter's examples.
func TestExamples(t *testing.T) {
	l, e := Hunt(small(t), 0, 200)
	if e != api.OK || len(l) < 3 || States(l) != 3 || l[len(l)-1].Died || l[len(l)-1].Picks != 2 {
		t.Error("the plan of chapter 22", l, e)
	}
	for i, x := range l {
		if x.Fuse != i || !x.Sound || x.Died != (i < len(l)-1) || i > 0 && x.Picks < l[i-1].Picks {
			t.Error("line", i, x)
		}
	}
	if fuse, ok := Broken(l); fuse != 0 || ok {
		t.Error("Broken", fuse, ok)
	}
	if l[0].Print != 0 || l[0].Picks != 0 {
		t.Error("the print of the empty state", l[0])
	}
	if part, e := Hunt(small(t), 1, 2); e != api.OK || len(part) != 2 || part[0] != l[1] || part[1] != l[2] {
		t.Error("a part of the fuses", part, e)
	}
	if n := States(nil); n != 0 {
		t.Error("States of none", n)
	}
	if fuse, ok := Broken(nil); fuse != 0 || ok {
		t.Error("Broken of none")
	}
}

// P25.1: refusals.
func TestErrors(t *testing.T) {
	p := small(t)
	for _, c := range [][2]int{{5, 4}, {-1, 3}, {0, 201}, {1, 1<<63 - 1}, {-1 << 63, 1<<63 - 1}} {
		if l, e := Hunt(p, c[0], c[1]); l != nil || e != api.ErrArg {
			t.Error("fuses", c, e)
		}
	}
	if l, e := Hunt(p, 0, 0); len(l) != 1 || e != api.OK || !l[0].Died {
		t.Error("one fuse", l, e)
	}
	if l, e := Hunt(p, 100, 300); len(l) != 1 || e != api.OK || l[0].Died {
		t.Error("the first one does not die", l, e)
	}
	for i, change := range []func(p *play.Plan){
		func(p *play.Plan) { p.Pages = 0 }, func(p *play.Plan) { p.Log = -1 }, func(p *play.Plan) { p.Frames = 1 }, func(p *play.Plan) { p.Sessions = 9 },
	} {
		p := small(t)
		change(&p)
		if l, e := Hunt(p, 0, 9); l != nil || e != api.ErrArg {
			t.Error("case", i, e)
		}
	}
	p.Pages = 15
	if l, e := Hunt(p, 0, 9); l != nil || e != api.ErrFull {
		t.Error("too few pages", e)
	}
}

// P25.2: what is counted, and what is broken.
func TestCounts(t *testing.T) {
	l := []Line{{Fuse: 3, Sound: true, Print: 7}, {Fuse: 4, Print: 8}, {Fuse: 5, Print: 7}}
	if fuse, ok := Broken(l); States(l) != 2 || fuse != 4 || !ok {
		t.Error("States, Broken", States(l), fuse, ok)
	}
	p := small(t)
	same := play.Run(p)
	if !line(p, same).Sound {
		t.Error("a sound line")
	}
	for i, change := range []func(r *play.Result){
		func(r *play.Result) { r.E = api.ErrForm }, func(r *play.Result) { r.Audit = api.ErrForm }, func(r *play.Result) { r.Twice = plain.State{} }, func(r *play.Result) { r.Picks = 1 },
	} {
		r := same
		change(&r)
		if line(p, r).Sound {
			t.Error("a line that is not sound", i)
		}
	}
}

// P25.3: all lines are sound, picks do not fall, and prints are those of states that first transactions leave.
func TestWhatever(t *testing.T) {
	for seed := range uint64(4) {
		src := sample.New(seed)
		p := play.Plan{Pages: 100, Log: 1 << 14, Frames: 24, Sessions: 2, Choice: src.Bytes(30), Again: int(seed) * 3}
		v, _ := lit.Parse(`{"_id": 3, "x": [1, 2, "` + string(make([]byte, 0)) + `"]}`)
		first := []api.Request{{Do: plain.Make, Coll: "a"}, {Do: plain.Index, Coll: "a", Index: "i", Path: "x.1"}, {Do: desk.Begin}, add(1), add(2), {Do: desk.Commit}, {Do: plain.Put, Coll: "a", Doc: v}}
		second := []api.Request{{Do: desk.Begin}, add(8), {Do: desk.Abort}, add(9), {Do: plain.Drop, Coll: "a"}}
		p.Input = [][]byte{frames(t, first...), frames(t, second...)}
		for range 40 {
			p.Picks = append(p.Picks, 1+src.Below(2), src.Below(6)-5)
		}
		l, e := Hunt(p, 0, 200)
		if e != api.OK || l[len(l)-1].Died {
			t.Fatal("Hunt", e, len(l))
		}
		prints := map[uint32]bool{}
		for n := range len(p.Picks) + 1 {
			q := p
			q.Picks, q.Fuse, q.Choice, q.Again = p.Picks[:n], -1, nil, -1
			prints[print(play.Run(q).State)] = true
		}
		for i, x := range l {
			if !x.Sound || i > 0 && x.Picks < l[i-1].Picks || !prints[x.Print] {
				t.Fatal("line", x)
			}
		}
		if fuse, ok := Broken(l); ok {
			t.Error("Broken", fuse)
		}
	}
}
