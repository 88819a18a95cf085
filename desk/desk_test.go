package desk

import (
	"fmt"
	"strings"
	"testing"

	"muniment/api"
	"muniment/base"
	"muniment/disk"
	"muniment/lit"
	"muniment/plain"
	"muniment/wire"
)

// room is a desk whose sessions are fed and stepped.
type room struct {
	t *testing.T
	b *base.Base
	d *Desk
}

func opened(t *testing.T, pages, log, frames, sessions int) *room {
	t.Helper()
	dev, _ := disk.New(pages, log)
	b, e := base.Open(dev, frames)
	if e != api.OK {
		t.Fatal("Open", e)
	}
	d, e := New(b, sessions)
	if e != api.OK {
		t.Fatal("New", e)
	}
	return &room{t, b, d}
}

func fresh(t *testing.T) *room { return opened(t, 600, 1<<19, 64, 4) }

func parse(s string) api.Val {
	v, e := lit.Parse(s)
	if e != api.OK {
		panic(s)
	}
	return v
}

func (r *room) feed(s int, q api.Request) {
	r.t.Helper()
	b, e := wire.PutRequest(q)
	if e != api.OK {
		r.t.Fatal("PutRequest", e)
	}
	if e := r.d.Feed(s, b); e != api.OK {
		r.t.Fatal("Feed", e)
	}
}

// out tells what a session was answered, as a text.
func (r *room) out(s int) string {
	r.t.Helper()
	b, e := r.d.Out(s)
	if e != api.OK {
		r.t.Fatal("Out", e)
	}
	var all []string
	for len(b) > 0 {
		p, n, e := wire.GetReply(b)
		if e != api.OK {
			r.t.Fatal("GetReply", e)
		}
		b = b[n:]
		all = append(all, reply(p))
	}
	return strings.Join(all, "; ")
}

func reply(p api.Reply) string {
	out := fmt.Sprint(int(p.E))
	if p.N != 0 {
		out += fmt.Sprint(" n", p.N)
	}
	if p.Cursor != 0 {
		out += fmt.Sprint(" c", p.Cursor)
	}
	for _, d := range p.Docs {
		s, _ := lit.Text(d)
		out += " " + s
	}
	return out
}

// ask feeds a request, steps the session once, and tells what it was answered.
func (r *room) ask(s int, q api.Request, want string) {
	r.t.Helper()
	r.feed(s, q)
	r.step(s, true)
	r.see(s, want)
}

func (r *room) step(s int, want bool) {
	r.t.Helper()
	if done, e := r.d.Step(s); done != want || e != api.OK {
		r.t.Error("Step", s, done, e)
	}
}

func (r *room) see(s int, want string) {
	r.t.Helper()
	if got := r.out(s); got != want {
		r.t.Errorf("session %d: %q, want %q", s, got, want)
	}
}

func do(n int) api.Request { return api.Request{Do: n} }
func onA(n int) api.Request {
	return api.Request{Do: n, Coll: "a"}
}
func put(doc string) api.Request     { return api.Request{Do: plain.Put, Coll: "a", Doc: parse(doc)} }
func add(doc string) api.Request     { return api.Request{Do: plain.Add, Coll: "a", Doc: parse(doc)} }
func take(id string) api.Request     { return api.Request{Do: plain.Take, Coll: "a", Key: parse(id)} }
func get(id string) api.Request      { return api.Request{Do: plain.Get, Coll: "a", Key: parse(id)} }
func find(n int) api.Request         { return api.Request{Do: plain.Find, Coll: "a", N: n} }
func numbered(do, n int) api.Request { return api.Request{Do: do, N: n} }
func next(cursor string, n int) api.Request {
	return api.Request{Do: Next, Key: parse(cursor), N: n}
}
func indexed(name, path string, unique bool) api.Request {
	return api.Request{Do: plain.Index, Coll: "a", Index: name, Path: path, Unique: unique}
}

// The chapter's examples.
func TestExamples(t *testing.T) {
	r := fresh(t)
	r.ask(1, onA(plain.Make), "0")
	r.ask(1, put(`{"_id": 1}`), "0")
	r.ask(1, do(Begin), "0")
	r.ask(1, take("1"), `0 {"_id": 1}`)
	r.ask(2, get("1"), "")
	r.step(2, false)
	if !r.d.Waits(2) || r.d.Waits(1) || !r.d.Open(1) || !r.d.Open(2) {
		t.Error("Waits, Open")
	}
	r.ask(1, do(Commit), "0")
	r.step(2, true)
	r.see(2, "17")

	r.ask(1, put(`{"_id": 1}`), "0")
	r.ask(1, do(Begin), "0")
	r.ask(1, find(5), `0 n1 {"_id": 1}`)
	r.ask(2, add(`{"_id": 2}`), "")
	r.ask(1, find(5), `0 n1 {"_id": 1}`)
	r.ask(1, do(Commit), "0")
	r.step(2, true)
	r.see(2, "0")

	r.d.Feed(3, []byte{1, 2, 3})
	r.step(3, true)
	r.see(3, "4")
	if !r.d.Shut(3) || r.d.Shut(2) {
		t.Error("Shut")
	}
}

// P20.1: what is read out of a session's bytes.
func TestBytes(t *testing.T) {
	good, _ := wire.PutRequest(do(Begin))
	turned := append([]byte(nil), good...)
	turned[5] ^= 1
	body := []byte{77, 68, 0, 0}
	odd := append(body, 0, 0, 0, 0)
	if p, _ := wire.PutReply(api.Reply{}); len(p) == 18 {
		odd = p // a frame of no request
	}
	for _, c := range []struct {
		b    []byte
		out  string
		shut bool
	}{{turned, "8", true}, {[]byte{77, 68, 255, 255}, "2", true}, {[]byte{77, 69}, "4", true}, {odd, "4", false}} {
		r := fresh(t)
		r.ask(1, do(Begin), "0")
		r.ask(1, onA(plain.Count), "5")
		r.d.Feed(1, append(append([]byte(nil), c.b...), good...))
		r.step(1, true)
		r.see(1, c.out)
		if r.d.Shut(1) != c.shut || r.d.Open(1) == c.shut {
			t.Error("shut, its transaction", r.d.Shut(1), r.d.Open(1))
		}
		r.step(1, !c.shut)
		if c.shut {
			if r.d.Feed(1, good) != api.OK {
				t.Error("Feed of a session that is shut")
			}
			r.step(1, false)
		} else {
			r.see(1, "12")
		}
	}
	r := fresh(t)
	for i := range good {
		r.step(1, false)
		r.d.Feed(1, good[i:i+1])
	}
	r.step(1, true)
	r.see(1, "0")
}

// P20.4: refusals.
func TestRefusals(t *testing.T) {
	r := fresh(t)
	for _, n := range []int{0, 9, -1} {
		if d, e := New(r.b, n); d != nil || e != api.ErrArg {
			t.Error("New of", n, e)
		}
	}
	for _, n := range []int{1, 8} {
		if _, e := New(r.b, n); e != api.OK {
			t.Error("sessions", n, e)
		}
	}
	for _, s := range []int{0, 5, -1} {
		_, e1 := r.d.Step(s)
		_, e2 := r.d.Out(s)
		if e1 != api.ErrArg || e2 != api.ErrArg || r.d.Feed(s, nil) != api.ErrArg || r.d.Waits(s) || r.d.Shut(s) || r.d.Open(s) {
			t.Error("no session", s, e1, e2)
		}
	}
	if r.d.Feed(1, make([]byte, 65536)) != api.OK || r.d.Feed(1, make([]byte, 1)) != api.ErrBig || r.d.Feed(2, make([]byte, 65537)) != api.ErrBig {
		t.Error("Feed of too much")
	}
	var none *Desk
	if _, e := none.Step(1); e != api.ErrArg {
		t.Error("no desk", e)
	}
	none.Run(5)
	if _, e := New(nil, 1); e == api.OK {
		t.Error("no base")
	}
	r.b.Store().Disk().Fuse(0)
	r.feed(3, onA(plain.Make))
	if done, e := r.d.Step(3); done || e != api.ErrDead {
		t.Error("the device dies", done, e)
	}
	if _, e := r.d.Run(5); e != api.ErrDead || r.out(3) != "" {
		t.Error("nothing is answered", e)
	}
}

// Requests: errors ahead of plain's, in order.
func TestErrors(t *testing.T) {
	r := fresh(t)
	r.ask(1, do(11), "1")
	r.ask(1, do(0), "1")
	r.ask(1, do(28), "1")
	for _, n := range []int{Commit, Abort, Mark, Back, Open, Next, Close} {
		r.ask(1, numbered(n, 99), "12")
	}
	r.ask(1, do(Begin), "0")
	for _, n := range []int{Begin, plain.Make, plain.Drop, plain.Index, plain.Unindex} {
		r.ask(1, do(n), "12")
	}
	r.ask(1, numbered(Mark, -1), "1")
	r.ask(1, numbered(Mark, 16), "1")
	r.ask(1, numbered(Back, 16), "1")
	r.ask(1, numbered(Back, 15), "5")
	r.ask(1, numbered(Next, 0), "1")
	r.ask(1, numbered(Next, 65), "1")
	r.ask(1, next("1", 64), "15")
	r.ask(1, next("null", 64), "15")
	r.ask(1, api.Request{Do: Close, Key: parse("-1")}, "15")
	r.ask(1, find(0), "5")
	r.ask(1, api.Request{Do: Open, Coll: "a", N: 0}, "5")
	r.ask(1, do(Abort), "0")
	r.ask(1, onA(plain.Make), "0")
	r.ask(1, onA(plain.Make), "6")
	r.ask(1, do(plain.Make), "4")
	r.ask(1, find(65), "1")
	r.ask(1, api.Request{Do: plain.Find, Coll: "a", N: 5, Low: parse(`"` + strings.Repeat("z", 200) + `"`)}, "0")
	r.ask(1, put(`{"x": 1}`), "14")
	r.ask(1, put(`5`), "4")
	r.ask(1, get("7"), "17")
	r.ask(1, take("7"), "17")
	r.ask(1, get(`"`+strings.Repeat("z", 94)+`"`), "14")
	r.ask(1, api.Request{Do: plain.Unindex, Coll: "a", Index: "i"}, "5")
	r.ask(1, onA(plain.Count), "0")
	if r.d.Open(1) || r.d.Waits(1) {
		t.Error("a request's own transaction ends with it")
	}
}

// Marks and cursors.
func TestMarks(t *testing.T) {
	r := fresh(t)
	r.ask(1, onA(plain.Make), "0")
	r.ask(1, do(Begin), "0")
	r.ask(1, numbered(Mark, 0), "0")
	r.ask(1, put(`{"_id": 1}`), "0")
	r.ask(1, numbered(Mark, 5), "0")
	r.ask(1, put(`{"_id": 2}`), "0")
	r.ask(1, api.Request{Do: Open, Coll: "a", N: 1}, `0 n1 c1 {"_id": 1}`)
	r.ask(1, numbered(Mark, 15), "0")
	r.ask(1, numbered(Back, 5), "0")
	r.ask(1, next("1", 1), "15")
	r.ask(1, numbered(Back, 15), "5")
	r.ask(1, find(9), `0 n1 {"_id": 1}`)
	r.ask(1, numbered(Mark, 0), "0") // set anew: behind mark 5
	r.ask(1, numbered(Back, 5), "0")
	r.ask(1, numbered(Back, 0), "5")
	r.ask(1, do(Commit), "0")
	r.ask(1, find(9), `0 n1 {"_id": 1}`)
	r.ask(1, do(Begin), "0")
	r.ask(1, numbered(Back, 5), "5")
}

func TestCursors(t *testing.T) {
	r := fresh(t)
	r.ask(1, onA(plain.Make), "0")
	r.ask(1, api.Request{Do: plain.Index, Coll: "a", Index: "i", Path: "x"}, "")
	r.d.Run(99)
	r.out(1)
	for i := range 5 {
		r.ask(1, put(fmt.Sprintf(`{"_id": %d, "x": %d}`, i, 9-i)), "0")
	}
	r.ask(1, do(Begin), "0")
	r.ask(1, api.Request{Do: Open, Coll: "a", N: 9}, `0 n5 {"_id": 0, "x": 9} {"_id": 1, "x": 8} {"_id": 2, "x": 7} {"_id": 3, "x": 6} {"_id": 4, "x": 5}`)
	r.ask(1, api.Request{Do: Open, Coll: "a", N: 2, Low: parse("1"), High: parse("3")}, `0 n2 c1 {"_id": 1, "x": 8} {"_id": 2, "x": 7}`)
	r.ask(1, api.Request{Do: Open, Coll: "a", Index: "i", N: 3}, `0 n3 c2 {"_id": 4, "x": 5} {"_id": 3, "x": 6} {"_id": 2, "x": 7}`)
	r.ask(1, next("1", 1), `0 n1 c1 {"_id": 3, "x": 6}`)
	r.ask(1, next("1", 1), `0`)
	r.ask(1, next("1", 1), `15`)
	r.ask(1, put(`{"_id": 9, "x": 8}`), "0")
	r.ask(1, next("2", 2), `0 n2 c2 {"_id": 1, "x": 8} {"_id": 9, "x": 8}`)
	r.ask(1, api.Request{Do: Close, Key: parse("2")}, "0")
	r.ask(1, api.Request{Do: Close, Key: parse("2")}, "15")
	r.ask(1, api.Request{Do: Open, Coll: "a", N: 1, Low: parse("77")}, `0`)
	r.ask(1, api.Request{Do: Open, Coll: "a", N: 1, Low: parse("9")}, `0 n1 c3 {"_id": 9, "x": 8}`)
	r.ask(1, do(Commit), "0")
	r.ask(1, do(Begin), "0")
	r.ask(1, next("3", 1), `15`)
	r.ask(1, api.Request{Do: Open, Coll: "a", N: 1}, `0 n1 c4 {"_id": 0, "x": 9}`)
}

// Documents are told as long as the answer has room.
func TestRoom(t *testing.T) {
	r := fresh(t)
	r.ask(1, onA(plain.Make), "0")
	for i := range 5 {
		r.ask(1, put(fmt.Sprintf(`{"_id": %d, "x": x"%s"}`, i, strings.Repeat("00", 3900))), "0")
	}
	r.ask(1, do(Begin), "0")
	count := func(q api.Request, docs, cursor int) {
		t.Helper()
		r.feed(1, q)
		r.step(1, true)
		b, _ := r.d.Out(1)
		p, _, e := wire.GetReply(b)
		if e != api.OK || len(p.Docs) != docs || p.N != docs || p.Cursor != cursor {
			t.Error("told", len(p.Docs), p.N, p.Cursor, e)
		}
	}
	count(find(5), 3, 0)
	count(api.Request{Do: Open, Coll: "a", N: 5}, 3, 1)
	count(next("1", 9), 2, 0)
	count(api.Request{Do: Open, Coll: "a", N: 2}, 2, 2)
	count(next("2", 3), 3, 2)
	count(next("2", 3), 0, 0)
}

// P20.2: who waits for whom, and victims.
func TestVictim(t *testing.T) {
	r := fresh(t)
	r.ask(1, onA(plain.Make), "0")
	r.ask(1, put(`{"_id": 1}`), "0")
	r.ask(1, do(Begin), "0")
	r.ask(2, do(Begin), "0")
	r.ask(1, get("1"), `0 {"_id": 1}`)
	r.ask(2, get("1"), `0 {"_id": 1}`)
	r.ask(1, take("1"), "")
	r.ask(2, take("1"), "11")
	if r.d.Open(2) || !r.d.Open(1) || r.d.Waits(1) {
		t.Error("the victim has no transaction, the other one goes on")
	}
	r.step(1, true)
	r.see(1, `0 {"_id": 1}`)
	r.ask(1, do(Commit), "0")

	r.ask(1, put(`{"_id": 1}`), "0")
	r.ask(2, do(Begin), "0")
	r.ask(1, do(Begin), "0")
	r.ask(1, get("1"), `0 {"_id": 1}`)
	r.ask(2, get("1"), `0 {"_id": 1}`)
	r.ask(1, take("1"), "")
	r.ask(2, take("1"), "") // 1 began later: it is the victim, and 2 may go on
	r.see(1, "11")
	r.step(2, true)
	r.see(2, `0 {"_id": 1}`)
}

// A bound whose key would be too long is a bound all the same.
func TestLongBounds(t *testing.T) {
	r := fresh(t)
	r.ask(1, onA(plain.Make), "0")
	r.feed(1, indexed("i", "x", false))
	r.d.Run(99)
	r.see(1, "0")
	for _, s := range []string{"a", "z"} {
		r.ask(1, put(`{"_id": "`+s+`", "x": "`+s+`"}`), "0")
	}
	long := parse(`"` + strings.Repeat("m", 200) + `"`)
	for _, of := range []string{"", "i"} {
		r.ask(1, api.Request{Do: plain.Find, Coll: "a", Index: of, N: 9, Low: long}, `0 n1 {"_id": "z", "x": "z"}`)
		r.ask(1, api.Request{Do: plain.Find, Coll: "a", Index: of, N: 9, High: long}, `0 n1 {"_id": "a", "x": "a"}`)
		r.ask(1, api.Request{Do: plain.Find, Coll: "a", Index: of, N: 9, Low: long, High: long}, `0`)
	}
}

// Ranges: what is added to them waits, what lies beside them does not.
func TestRanges(t *testing.T) {
	r := fresh(t)
	r.ask(1, onA(plain.Make), "0")
	for _, i := range []int{10, 20, 30, 40} {
		r.ask(1, put(fmt.Sprintf(`{"_id": %d, "x": %d}`, i, i)), "0")
	}
	r.ask(1, do(Begin), "0")
	r.ask(1, api.Request{Do: plain.Find, Coll: "a", N: 9, Low: parse("20"), High: parse("35")}, `0 n2 {"_id": 20, "x": 20} {"_id": 30, "x": 30}`)
	r.ask(2, add(`{"_id": 5}`), "0")
	r.ask(2, add(`{"_id": 15}`), "")  // below the range, but its next one is of it
	r.ask(3, add(`{"_id": 35}`), "")  // its next one is the one behind the range
	r.ask(4, add(`{"_id": 45}`), "0") // beyond
	r.ask(1, do(Commit), "0")
	if n, e := r.d.Run(99); n != 2 || e != api.OK {
		t.Error("Run", n, e)
	}
	r.see(2, "0")
	r.see(3, "0")
	r.ask(1, do(Begin), "0")
	r.ask(1, find(2), `0 n2 {"_id": 5} {"_id": 10, "x": 10}`)
	r.ask(2, add(`{"_id": 11}`), "0") // as many as were asked for were found: nothing behind them is asked for
	r.ask(2, add(`{"_id": 7}`), "")
	r.ask(1, do(Abort), "0")
	r.step(2, true)
	r.see(2, "0")
}

// P20.2: Index.
func TestIndex(t *testing.T) {
	r := fresh(t)
	r.ask(1, onA(plain.Make), "0")
	for i := range 9 {
		r.ask(1, put(fmt.Sprintf(`{"_id": %d, "x": %d}`, i, i)), "0")
	}
	r.ask(2, do(Begin), "0")
	r.ask(2, put(`{"_id": 3, "x": 4}`), "0 n1")
	r.ask(1, indexed("i", "x", true), "") // started
	r.ask(3, indexed("j", "x", true), "16")
	r.step(1, true)  // 8 documents
	r.step(1, true)  // the last one: true
	r.step(1, true)  // asks for the collection, and waits
	r.step(1, false) // for 2
	if !r.d.Waits(1) {
		t.Error("it waits for the collection")
	}
	r.ask(3, onA(plain.Count), "")
	r.ask(2, do(Abort), "0")
	r.step(1, true)
	r.see(1, "0")
	r.step(3, true)
	r.see(3, "0 n9")
	r.ask(1, put(`{"_id": 3, "x": 4}`), "13")
	r.ask(1, do(Begin), "0")
	r.ask(1, put(`{"_id": 11, "x": 11}`), "0")
	r.ask(1, put(`{"_id": 12, "x": 11}`), "13")
	if r.d.Open(1) {
		t.Error("P20.3: ErrUnique aborts")
	}
	r.ask(1, get("11"), "17")
	r.ask(1, indexed("u", "y", true), "")
	r.ask(2, put(`{"_id": 20, "y": 1}`), "0")
	r.ask(2, put(`{"_id": 21, "y": 1}`), "0")
	r.d.Run(99)
	r.see(1, "13")
	if graves, _ := r.b.Graves(); len(graves) != 1 {
		t.Error("its tree is a grave", graves)
	}
}

// A value that another transaction gave up but may take back is waited for.
func TestUniqueWaits(t *testing.T) {
	for _, first := range []string{`{"_id": 1, "x": 5}`, `{"_id": 9, "x": 5}`} {
		r := fresh(t)
		r.ask(1, onA(plain.Make), "0")
		r.feed(1, indexed("u", "x", true))
		r.d.Run(99)
		r.see(1, "0")
		r.ask(1, put(first), "0")
		r.ask(1, do(Begin), "0")
		r.ask(1, take(first[8:9]), "0 "+first)
		r.ask(2, add(`{"_id": 4, "x": 5}`), "")
		r.ask(1, do(Abort), "0")
		r.step(2, true)
		r.see(2, "13")
	}
}

// P20.3: ErrFull aborts the session's transaction.
func TestFull(t *testing.T) {
	r := opened(t, 24, 1<<16, 24, 2)
	r.ask(1, onA(plain.Make), "0")
	r.ask(1, put(`{"_id": 0}`), "0")
	r.ask(1, do(Begin), "0")
	for n := 1; ; n++ {
		r.feed(1, put(fmt.Sprintf(`{"_id": %d, "x": x"%s"}`, n, strings.Repeat("00", 900))))
		r.step(1, true)
		out := r.out(1)
		if out == "7" {
			break
		}
		if out != "0" || n > 30 {
			t.Fatal("Put", n, out)
		}
	}
	if r.d.Open(1) {
		t.Error("the session has a transaction still")
	}
	r.ask(1, find(9), `0 n1 {"_id": 0}`)
}

// P20.4: Run.
func TestRun(t *testing.T) {
	r := fresh(t)
	r.feed(2, onA(plain.Make))
	r.feed(1, onA(plain.Count))
	r.feed(1, onA(plain.Count))
	for i, want := range []int{0, 1, 2, 0} {
		if n, e := r.d.Run(i); n != want || e != api.OK {
			t.Error("Run", i, n, e)
		}
	}
	r.see(1, "5; 5")
	r.see(2, "0")
}
