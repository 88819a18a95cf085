package desk

import (
	"bytes"
	"fmt"
	"testing"

	"muniment/api"
	"muniment/plain"
	"muniment/sample"
	"muniment/tidy"
	"muniment/wire"
)

// deal is a request, and what was answered.
type deal struct {
	q api.Request
	p api.Reply
}

// client is what a session of a run asks for and was told.
type client struct {
	asked []api.Request // fed, not answered yet
	deals []deal        // of the transaction that is at work
	open  bool
}

// run is sessions that ask at random; what is committed is held against plain.
type run struct {
	*room
	src     *sample.Source
	clients []client
	sure    plain.State
	counts  map[string]int
}

func newRun(t *testing.T, seed uint64, frames int) *run {
	r := &run{room: opened(t, 900, 1<<19, frames, 4), src: sample.New(seed), clients: make([]client, 4), counts: map[string]int{}}
	return r
}

func id(n int) api.Val { return api.Val{Kind: api.Int, N: uint64(n)} }

// request tells a request, such as may be asked for within a transaction or not.
func (r *run) request(open bool) api.Request {
	s := r.src
	n := s.Below(8)
	q := api.Request{Coll: string(rune('a' + s.Below(2)*s.Below(2))), Key: id(n), Index: "", N: 1 + s.Below(4)}
	q.Doc = api.Val{Kind: api.Doc, F: []api.Field{{Name: "_id", V: id(n)}, {Name: "x", V: id(s.Below(5))}}}
	if s.Below(3) == 0 {
		q.Doc.F[1].Name = "y"
	}
	q.Doc.F = append(q.Doc.F, api.Field{Name: "z", V: id(s.Below(3))})
	if s.Below(2) == 0 {
		q.Low, q.High = id(s.Below(4)), id(2+s.Below(6))
	}
	if s.Below(2) == 0 {
		q.Index = string(rune('i' + s.Below(2)))
	}
	q.Unique = s.Below(2) == 0
	q.Path = string(rune('x' + s.Below(2)))
	k := s.Below(40)
	switch {
	case k < 9:
		q.Do = plain.Put
	case k < 13:
		q.Do = plain.Add
	case k < 18:
		q.Do = plain.Take
	case k < 22:
		q.Do = plain.Get
	case k < 27:
		q.Do = plain.Find
	case k < 28:
		q.Do = plain.Count
	case !open && k < 31:
		q.Do, q.Index = plain.Index, string(rune('i'+s.Below(2)))
	case !open && k < 32:
		q.Do, q.Index = plain.Unindex, string(rune('i'+s.Below(2)))
	case !open && k < 33 && s.Below(5) == 0:
		q.Do = plain.Drop
	case !open && k < 35:
		q.Do = plain.Make
	case !open:
		q.Do = Begin
	case k < 30:
		q.Do, q.N = Mark, s.Below(2)
	case k < 32:
		q.Do, q.N = Back, s.Below(2)
	case k < 34:
		q.Do = Open
	case k < 36:
		q.Do, q.Key = Next, id(1+s.Below(4))
	case k < 37:
		q.Do = Abort
	default:
		q.Do = Commit
	}
	return q
}

// feedOne feeds a session one request, if it has none.
func (r *run) feedOne(s int) {
	c := &r.clients[s-1]
	if len(c.asked) == 0 {
		q := r.request(c.open)
		r.feed(s, q)
		c.asked = append(c.asked, q)
	}
}

// stepOne steps a session, and takes what was answered to all.
func (r *run) stepOne(s int) {
	if _, e := r.d.Step(s); e != api.OK {
		r.t.Fatal("Step", e)
	}
	// victims end ahead of the one that goes on
	for i := range r.clients {
		r.take(i + 1)
	}
}

func (r *run) take(s int) {
	c := &r.clients[s-1]
	b, _ := r.d.Out(s)
	if len(b) == 0 {
		return
	}
	p, n, e := wire.GetReply(b)
	if e != api.OK || n != len(b) || len(c.asked) == 0 {
		r.t.Fatal("an answer that nobody asked for")
	}
	q := c.asked[0]
	c.asked = nil
	c.deals = append(c.deals, deal{q, p})
	r.counts[fmt.Sprint(q.Do, " ", int(p.E))]++
	switch {
	case p.E == api.ErrVictim || p.E == api.ErrUnique || p.E == api.ErrFull || q.Do == Abort:
		if p.E == api.ErrUnique && q.Do != plain.Index {
			r.unique(c.deals)
		}
		c.deals, c.open = nil, false
	case q.Do == Begin:
		c.open = true
	case q.Do == Commit || !c.open:
		r.replay(c.deals)
		c.deals, c.open = nil, false
	}
	if r.d.Open(s) != c.open {
		r.t.Fatal("Open", s, q.Do, p.E)
	}
}

// unique replays a transaction that was refused for a second value: what it waited for is committed, so plain refuses it, too.
func (r *run) unique(deals []deal) {
	sure := r.sure
	r.replay(deals)
	r.sure = sure
}

// shown is a range of which documents were told, and the entry of the last one.
type shown struct {
	q    api.Request
	last []byte
}

// entryOf tells by what a document stands in a range.
func entryOf(now plain.State, q api.Request, d api.Val) []byte {
	for _, c := range now.Colls {
		for _, x := range c.Indexes {
			if c.Name == q.Coll && x.Name == q.Index {
				k, _, _ := plain.Entry(x, d)
				return k
			}
		}
	}
	k, _ := plain.Key(d)
	return k
}

// replay does a transaction's requests on the committed state: plain must tell the same.
func (r *run) replay(deals []deal) {
	now := r.sure
	var at [16]*plain.State
	cursors := map[int]*shown{}
	for i, x := range deals {
		want := api.Reply{}
		switch x.q.Do {
		case Begin, Commit:
		case Mark:
			s := now
			at[x.q.N] = &s
		case Back:
			if x.p.E == api.OK {
				now = *at[x.q.N]
				clear(cursors)
			}
			want.E = x.p.E
		case Open:
			all := x.q
			all.Do = plain.Find
			_, want = plain.Do(now, all)
			if want.E == api.OK && want.N == x.q.N {
				want.Cursor = x.p.Cursor
				cursors[x.p.Cursor] = &shown{all, entryOf(now, all, want.Docs[want.N-1])}
			}
		case Next:
			c := cursors[int(x.q.Key.N)]
			if c == nil {
				want.E = api.ErrCursor
				break
			}
			want = r.more(now, c, x.q)
			if want.Cursor == 0 {
				delete(cursors, int(x.q.Key.N))
			}
		default:
			now, want = plain.Do(now, x.q)
		}
		if x.p.E == api.ErrBusy && x.q.Do == plain.Index {
			return
		}
		if got := reply(x.p); got != reply(want) {
			r.t.Fatalf("deal %d of %d: %v\nwas told %s\nplain tells %s", i, len(deals), x.q, got, reply(want))
		}
	}
	r.sure = now
}

// more tells what a cursor goes on with: the documents behind those that were told.
func (r *run) more(now plain.State, c *shown, q api.Request) api.Reply {
	all := c.q
	all.N = 64
	_, p := plain.Do(now, all)
	for len(p.Docs) > 0 && bytes.Compare(entryOf(now, all, p.Docs[0]), c.last) <= 0 {
		p.Docs = p.Docs[1:]
	}
	if len(p.Docs) > q.N {
		p.Docs = p.Docs[:q.N]
	}
	if p.N = len(p.Docs); p.N == q.N {
		c.last = entryOf(now, all, p.Docs[p.N-1])
		p.Cursor = int(q.Key.N)
	}
	return p
}

// exact holds all indexes against the documents that are there, committed or not.
func (r *run) exact() {
	s, e := r.b.State()
	if e != api.OK {
		r.t.Fatal("State", e)
	}
	for _, c := range s.Colls {
		for _, x := range c.Indexes {
			want, _ := plain.Entries(c, x)
			if got, _ := r.b.Entries(c.Name, x.Name); fmt.Sprint(got) != fmt.Sprint(want) {
				r.t.Fatal("T3: an index is not exact")
			}
		}
	}
}

// below does something that must not be seen.
func (r *run) below() {
	switch r.src.Below(12) {
	case 0:
		r.b.Checkpoint()
	case 1:
		r.b.Clean()
	case 2:
		tidy.Step(r.b)
	case 3:
		r.b.Store().Pool().WriteAll()
	}
}

// P20.5, T1, T3, T7: one order; exact indexes; all are answered at last.
func TestOneOrder(t *testing.T) {
	counts := map[string]int{}
	for seed := range uint64(60) {
		r := newRun(t, seed, 24+int(seed%2)*40)
		r.counts = counts
		for _, q := range []api.Request{onA(plain.Make), indexed("i", "x", false), indexed("j", "y", true)} {
			if seed%4 > 0 {
				r.feed(1, q)
				r.clients[0].asked = append(r.clients[0].asked, q)
				for range 9 {
					r.stepOne(1)
				}
			}
		}
		for i := range 600 {
			s := 1 + r.src.Below(4)
			r.feedOne(s)
			r.stepOne(s)
			r.below()
			if i%20 == 0 {
				r.exact()
			}
		}
		for range 200 {
			for s := 1; s <= 4; s++ {
				c := &r.clients[s-1]
				if len(c.asked) == 0 && c.open {
					q := do(Commit + r.src.Below(2))
					r.feed(s, q)
					c.asked = append(c.asked, q)
				}
				r.stepOne(s)
			}
		}
		for s := 1; s <= 4; s++ {
			if r.d.Open(s) || r.d.Waits(s) || len(r.clients[s-1].asked) > 0 {
				t.Fatal("T7: somebody is left", s)
			}
		}
		got, _ := r.b.State()
		if !plain.Equal(got, r.sure) {
			t.Fatal("the state is not that of the commits in order")
		}
	}
	for _, want := range []string{"7 0", "7 13", "7 16", "3 11", "3 13", "24 0", "26 0", "26 15", "22 0", "2 0", "8 0", "5 11"} {
		if counts[want] == 0 {
			t.Error("a test that does not come to", want, counts)
		}
	}
}

// T4: what lies below changes no answer.
func TestBelowIsNotSeen(t *testing.T) {
	for seed := range uint64(6) {
		var first [][]byte
		for frames := 24; frames < 100; frames += 37 {
			r := opened(t, 900, 1<<19, frames, 3)
			src, low := sample.New(seed), sample.New(uint64(frames))
			gen := &run{room: r, src: src}
			var outs [][]byte
			for range 300 {
				s := 1 + src.Below(3)
				r.feed(s, gen.request(src.Below(2) == 0))
				r.d.Step(1 + src.Below(3))
				(&run{room: r, src: low}).below()
				out, _ := r.d.Out(s)
				outs = append(outs, out)
			}
			if first == nil {
				first = outs
			}
			for i := range outs {
				if !bytes.Equal(outs[i], first[i]) {
					t.Fatal("what lies below is seen", seed, frames, i)
				}
			}
		}
	}
}

// T6: any bytes.
func TestAnyBytes(t *testing.T) {
	for seed := range uint64(30) {
		r := opened(t, 200, 1<<17, 24, 2)
		src := sample.New(seed)
		gen := &run{room: r, src: src}
		before, _ := r.b.State()
		for range 60 {
			b, _ := wire.PutRequest(gen.request(src.Below(2) == 0))
			for range src.Below(3) {
				b[src.Below(len(b))] ^= byte(1 + src.Below(255))
			}
			r.d.Feed(2, b)
			if _, e := r.d.Run(50); e != api.OK {
				t.Fatal("Run", e)
			}
			if r.d.Shut(2) && r.d.Open(2) {
				t.Fatal("a shut session has a transaction")
			}
		}
		r.d.Feed(1, src.Bytes(500))
		r.d.Run(50)
		if s, _ := r.b.State(); r.out(1) != "4" || len(s.Colls) < len(before.Colls) {
			t.Fatal("bytes that are none")
		}
	}
}
