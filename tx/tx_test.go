package tx

import (
	"fmt"
	"testing"

	"muniment/api"
	"muniment/atom"
	"muniment/disk"
	"muniment/page"
	"muniment/sample"
)

func counters(t *testing.T, d *disk.Disk, n int) *Counters {
	t.Helper()
	c, e := OpenCounters(d, 4, n)
	if e != api.OK {
		t.Fatal("OpenCounters", e)
	}
	return c
}

func device(pages, log int) *disk.Disk {
	d, _ := disk.New(pages, log)
	return d
}

func values(t *testing.T, c *Counters) string {
	t.Helper()
	var out []int64
	for i := range c.n {
		v, e := c.Value(i)
		if e != api.OK {
			t.Fatal("Value", e)
		}
		out = append(out, v)
	}
	return fmt.Sprint(out)
}

// The chapter's examples.
func TestExamples(t *testing.T) {
	d := device(16, 65536)
	c := counters(t, d, 2)
	m := c.Manager()
	if id, e := m.Begin(); id != 1 || e != api.OK {
		t.Error("Begin", id, e)
	}
	if c.Add(1, 0, 5) != api.OK || c.Add(9, 0, 1) != api.ErrTx || c.Add(1, 2, 1) != api.ErrArg || c.Add(1, -1, 1) != api.ErrArg || values(t, c) != "[5 0]" {
		t.Error("Add")
	}
	if m.Commit(1) != api.OK || m.Commit(1) != api.ErrTx {
		t.Error("Commit")
	}
	if id, _ := m.Begin(); id != 2 || c.Add(2, 0, 7) != api.OK || values(t, c) != "[12 0]" || m.Abort(2) != api.OK || values(t, c) != "[5 0]" || m.Abort(2) != api.ErrTx {
		t.Error("Abort")
	}
	for k := range 256 {
		c := counters(t, d.Crash([]byte{byte(k), 3}), 2)
		if values(t, c) != "[5 0]" {
			t.Error("behind a crash", k, values(t, c))
		}
		if id, _ := c.Manager().Begin(); id < 2 {
			t.Error("numbers rise", id)
		}
	}
}

// P13.3: refusals of the counters.
func TestCounters(t *testing.T) {
	for n, want := range map[int]api.Errno{0: 1, 101: 1, -1: 1, 1: 0, 60: 0, 61: 0, 100: 0} {
		if _, e := OpenCounters(device(4, 9000), 4, n); e != want {
			t.Error("OpenCounters of", n, e)
		}
	}
	d := device(4, 9000)
	c := counters(t, d, 100)
	id, _ := c.Manager().Begin()
	for _, i := range []int{0, 59, 60, 99} {
		if e := c.Add(id, i, -int64(i)-1<<62); e != api.OK {
			t.Error("Add", i, e)
		}
		c.Add(id, i, -1<<63)
		c.Add(id, i, 1<<62)
		c.Add(id, i, -1<<63)
		if v, e := c.Value(i); v != -int64(i) || e != api.OK {
			t.Error("it wraps", i, v, e)
		}
	}
	for _, i := range []int{-1, 100} {
		if v, e := c.Value(i); v != 0 || e != api.ErrArg {
			t.Error("Value", i, e)
		}
	}
	c.Manager().Commit(id)
	if _, e := OpenCounters(d.Crash(nil), 4, 99); e != api.ErrArg {
		t.Error("another number of counters", e)
	}
	if c := counters(t, d.Crash(nil), 100); c.m.s == nil {
		t.Error("opened anew")
	}
	if _, e := Open(nil, c); e == api.OK {
		t.Error("no store")
	}
}

// P13.2: marks.
func TestBack(t *testing.T) {
	c := counters(t, device(16, 65536), 1)
	m := c.Manager()
	id, _ := m.Begin()
	other, _ := m.Begin()
	start, e := m.Mark(id)
	if e != api.OK || fmt.Sprint(m.Active()) != fmt.Sprint([]uint64{id, other}) {
		t.Error("Mark, Active", e)
	}
	c.Add(id, 0, 1)
	one, _ := m.Mark(id)
	c.Add(id, 0, 10)
	c.Add(other, 0, 1000)
	two, _ := m.Mark(id)
	c.Add(id, 0, 100)
	if m.Back(id, two) != api.OK || values(t, c) != "[1011]" || m.Back(id, two) != api.OK || m.Back(other, two) != api.ErrArg || m.Back(99, two) != api.ErrTx {
		t.Error("Back to the last mark")
	}
	if m.Back(id, one) != api.OK || values(t, c) != "[1001]" || m.Back(id, two) != api.ErrArg {
		t.Error("a mark behind is gone")
	}
	c.Add(id, 0, 50)
	if m.Back(id, 12345) != api.ErrArg || m.Back(id, start) != api.OK || values(t, c) != "[1000]" || m.Back(id, one) != api.ErrArg {
		t.Error("Back to the beginning")
	}
	c.Add(id, 0, 7)
	if m.Commit(id) != api.OK || m.Abort(other) != api.OK || values(t, c) != "[7]" || len(m.Active()) != 0 {
		t.Error("the end")
	}
	if _, e := m.Mark(id); e != api.ErrTx {
		t.Error("Mark of one that is over")
	}
}

// teller notes what is undone.
type teller struct {
	told []string
	e    api.Errno
}

func (u *teller) Undo(g *atom.Group, data []byte) api.Errno {
	u.told = append(u.told, string(data))
	return u.e
}

// P13.1 and Words: the records, and that all is undone from the last record of all on.
func TestRecords(t *testing.T) {
	d := device(4, 9000)
	s, _ := atom.Open(d, 4)
	u := &teller{}
	m, e := Open(s, u)
	if e != api.OK {
		t.Fatal(e)
	}
	a, _ := m.Begin()
	b, _ := m.Begin()
	done := func(id uint64, undo string) uint64 {
		g, _ := s.Group()
		at := s.Log().End()
		if e := m.Done(id, g, []byte(undo)); e != api.OK {
			t.Fatal("Done", e)
		}
		return at
	}
	a1 := done(a, "a1")
	b1 := done(b, "b1")
	a2 := done(a, "")
	b2 := done(b, "b2")
	mark, _ := m.Mark(a)
	a3 := done(a, "a3")
	r, _, _ := s.Log().Read(a3)
	if r.Kind != 1 || r.Tx != a || r.Prev != a2 || string(r.Data) != "a3" {
		t.Error("a group's record", r)
	}
	at := s.Log().End()
	m.Back(a, mark)
	if r, _, _ := s.Log().Read(at); r.Kind != 2 || r.Tx != a || r.Next != a2 || r.Prev != a3 {
		t.Error("the record of undoing", r, a1, b1, b2)
	}
	last := at
	at = s.Log().End()
	data := []byte("a4")
	g, _ := s.Group()
	m.Done(a, g, data)
	data[0] = 'x'
	if r, _, _ := s.Log().Read(at); r.Prev != last {
		t.Error("the record ahead is that of undoing", r.Prev, last)
	}
	u.told = nil
	m.Back(a, mark)
	if fmt.Sprint(u.told) != "[a4]" {
		t.Error("R4: undo data are kept", u.told)
	}
	s.Force(s.Log().End())
	c := d.Crash(nil)
	u2 := &teller{}
	s2, _ := atom.Open(c, 4)
	if m2, e := Open(s2, u2); e != api.OK || fmt.Sprint(u2.told) != "[b2 b1 a1]" || len(m2.Active()) != 0 {
		t.Error("undone in order", u2.told, e)
	}
	s2.Force(s2.Log().End())
	u3 := &teller{}
	s3, _ := atom.Open(c.Crash(nil), 4)
	if _, e := Open(s3, u3); e != api.OK || len(u3.told) != 0 {
		t.Error("what was undone is not undone once more", u3.told, e)
	}
	s4, _ := atom.Open(d.Crash(nil), 4)
	if _, e := Open(s4, &teller{e: api.ErrForm}); e != api.ErrForm {
		t.Error("an Undoer's error", e)
	}
	if m.Done(77, nil, nil) != api.ErrTx || m.Done(a, nil, nil) != api.ErrState {
		t.Error("Done without transaction, group")
	}
}

// P13.2: Done tells ErrFull in time, so that Commit, Abort and Back do not.
func TestFull(t *testing.T) {
	for log := 700; log < 12000; log += 331 {
		d := device(2, log)
		c, e := OpenCounters(d, 2, 1)
		if e != api.OK {
			continue
		}
		m := c.Manager()
		var ids []uint64
		for i := range 200 {
			id, _ := m.Begin()
			if e := c.Add(id, 0, int64(i)); e != api.OK && e != api.ErrFull {
				t.Fatal("Add", e)
			}
			if e := m.Checkpoint(); e != api.OK && e != api.ErrFull {
				t.Fatal("Checkpoint", e)
			}
			ids = append(ids, id)
		}
		for i, id := range ids {
			end := m.Abort
			if i%2 == 0 {
				end = m.Commit
			}
			if e := end(id); e != api.OK {
				t.Fatal("Commit or Abort with a log of", log, e)
			}
		}
	}
}

// P13.3: with room for 2000 bytes an Add, and 4000 more, there is room.
func TestRoom(t *testing.T) {
	for n := 1; n < 40; n += 3 {
		c := counters(t, device(4, 2000*n+4000), 100)
		m := c.Manager()
		for round := range 3 {
			if c.s.Clean() != api.OK || m.Checkpoint() != api.OK {
				t.Fatal("Checkpoint")
			}
			id, _ := m.Begin()
			for i := range n {
				if e := c.Add(id, i*61%100, 1); e != api.OK {
					t.Fatal("Add", i, "of", n, e)
				}
				c.s.Clean()
				if i%2 == round%2 {
					m.Commit(id)
					id, _ = m.Begin()
				}
			}
			if e := m.Abort(id); e != api.OK {
				t.Fatal("Abort", e)
			}
		}
	}
}

// A transaction that is active for long does not keep the log from being cut.
func TestLong(t *testing.T) {
	d := device(4, 8000)
	c := counters(t, d, 2)
	m := c.Manager()
	long, _ := m.Begin()
	c.Add(long, 0, 3)
	mark, _ := m.Mark(long)
	c.Add(long, 0, 4)
	for i := range 500 {
		id, _ := m.Begin()
		if e := c.Add(id, 1, 1); e != api.OK {
			t.Fatal("Add", i, e)
		}
		m.Commit(id)
	}
	if left := counters(t, d.Crash(nil), 2); values(t, left) != "[0 500]" {
		t.Error("behind a crash", values(t, left))
	}
	if m.Back(long, mark) != api.OK || values(t, c) != "[3 500]" || m.Abort(long) != api.OK || values(t, c) != "[0 500]" {
		t.Error("undone", values(t, c))
	}
}

// run does what the seed says with counters; it tells the sums of what was committed, and such as may be.
type run struct {
	c     *Counters
	sure  [3]int64
	maybe [3]int64
}

func play(d *disk.Disk, seed uint64) *run {
	r := &run{}
	var e api.Errno
	if r.c, e = OpenCounters(d, 2, 3); e != api.OK {
		return r
	}
	src := sample.New(seed)
	m := r.c.Manager()
	adds := map[uint64][3]int64{}
	for range 40 {
		if d.Dead() {
			break
		}
		active := m.Active()
		if len(active) < 3 {
			id, _ := m.Begin()
			adds[id] = [3]int64{}
			active = append(active, id)
		}
		id := active[src.Below(len(active))]
		switch src.Below(12) {
		case 0:
			m.Checkpoint()
		case 1:
			r.c.s.Clean()
		case 2:
			m.Renew()
		case 3:
			m.Abort(id)
		case 4, 5:
			r.maybe = plus(r.sure, adds[id])
			if m.Commit(id) == api.OK {
				r.sure = r.maybe
			}
		case 6:
			mark, _ := m.Mark(id)
			r.c.Add(id, 1, 99)
			m.Back(id, mark)
		default:
			i, n := src.Below(3), int64(src.Below(1000))
			if r.c.Add(id, i, n) == api.OK {
				x := adds[id]
				x[i] += n
				adds[id] = x
			}
		}
		if !d.Dead() {
			r.maybe = r.sure
		}
	}
	return r
}

func plus(a, b [3]int64) [3]int64 {
	for i := range a {
		a[i] += b[i]
	}
	return a
}

// P13.4: whatever operation the device dies at, what was committed is there, and nothing else.
func TestCrashes(t *testing.T) {
	for seed := range uint64(25) {
		for fuse := range 500 {
			src := sample.New(seed*777 + uint64(fuse))
			d := device(3, 3500+int(seed%5)*1300)
			d.Fuse(fuse)
			r := play(d, seed)
			choice := src.Bytes(30)
			left := d.Crash(choice)
			for again := range 7 {
				c := d.Crash(choice)
				c.Fuse(again)
				OpenCounters(c, 2, 3)
				c = c.Crash(src.Bytes(20))
				for range src.Below(4) {
					c.Fuse(src.Below(9))
					OpenCounters(c, 2, 3)
					c = c.Crash(src.Bytes(20))
				}
				check(t, c, r, seed, fuse)
			}
			check(t, left, r, seed, fuse)
			if !d.Dead() {
				break
			}
		}
	}
}

func check(t *testing.T, d *disk.Disk, r *run, seed uint64, fuse int) {
	t.Helper()
	first := values(t, counters(t, d, 3))
	if first != fmt.Sprint(r.sure) && first != fmt.Sprint(r.maybe) {
		t.Fatalf("seed %d fuse %d: %s, want %v or %v", seed, fuse, first, r.sure, r.maybe)
	}
	if twice := values(t, counters(t, d.Crash(nil), 3)); twice != first {
		t.Fatalf("seed %d fuse %d: opened once more %s, not %s", seed, fuse, twice, first)
	}
}

// Undoing is told by one who wrote several pages.
type wide struct{}

func (wide) Undo(g *atom.Group, data []byte) api.Errno {
	for i := range 6 {
		p, _ := page.New(int(data[0]))
		if e := g.Write(i, p); e != api.OK {
			return e
		}
	}
	return api.OK
}

func TestWide(t *testing.T) {
	for log := 5000; log < 40000; log += 1777 {
		s, _ := atom.Open(device(6, log), 2)
		m, _ := Open(s, wide{})
		id, _ := m.Begin()
		for i := range 50 {
			g, _ := s.Group()
			wide{}.Undo(g, []byte{byte(i)})
			m.Done(id, g, []byte{byte(i + 100)})
			g.Drop()
		}
		if e := m.Abort(id); e != api.OK {
			t.Fatal("Abort with a log of", log, e)
		}
	}
}

// broken is an Undoer that can't be asked, if it is nil.
type broken struct{ told int }

func (u *broken) Undo(g *atom.Group, data []byte) api.Errno {
	u.told++
	return api.OK
}

// wrote does a group that makes page n of a kind, within a new transaction.
func wrote(t *testing.T, m *Manager, n int, undo []byte) uint64 {
	t.Helper()
	id, _ := m.Begin()
	g, _ := m.Store().Group()
	p, _ := page.New(n + 1)
	if g.Write(n, p) != api.OK {
		t.Fatal("Write")
	}
	if e := m.Done(id, g, undo); e != api.OK {
		t.Fatal("Done", e)
	}
	return id
}

// P13.1, R6: without an Undoer all is taken that asks none; R1, R3: what must ask one is refused, and changes nothing.
func TestNoUndoer(t *testing.T) {
	d := device(8, 20000)
	s, _ := atom.Open(d, 4)
	m, e := Open(s, nil)
	if m == nil || e != api.OK {
		t.Fatal("Open without an Undoer", e)
	}
	if m.Commit(wrote(t, m, 0, nil)) != api.OK || m.Abort(wrote(t, m, 1, nil)) != api.OK {
		t.Error("undo data that are empty")
	}
	left := wrote(t, m, 2, []byte{})
	s.Force(s.Log().End())
	again, _ := atom.Open(d.Crash(nil), 4)
	if c, e := Open(again, nil); e != api.OK || len(c.Active()) != 0 {
		t.Error("one that was active behind a crash", e)
	}
	for n := range 3 {
		p, _ := again.Read(n)
		if kind, _, _, _, _ := page.Head(p); kind != n+1 {
			t.Error("what has no undo data stays", n, kind)
		}
	}
	mark, _ := m.Mark(left)
	other := wrote(t, m, 3, []byte{7})
	start, _ := m.Mark(other)
	g, _ := s.Group()
	m.Done(other, g, nil)
	now, _ := m.Mark(other)
	if m.Back(left, mark) != api.OK || m.Back(other, start) != api.OK || m.Back(other, now) != api.ErrArg || m.Abort(left) != api.OK {
		t.Error("Back and Abort where nothing asks")
	}
	g, _ = s.Group()
	m.Done(other, g, nil)
	now, _ = m.Mark(other)
	if e := m.Abort(other); e != api.ErrArg || fmt.Sprint(m.Active()) != fmt.Sprint([]uint64{other}) {
		t.Error("Abort of what asks", e, m.Active())
	}
	if again, e := m.Mark(other); again != now || e != api.OK {
		t.Error("what is refused changes nothing", again, now, e)
	}
	s.Force(s.Log().End())
	none, _ := atom.Open(d.Crash(nil), 4)
	if c, e := Open(none, nil); c != nil || e != api.ErrArg {
		t.Error("Open of what asks", e)
	}
	var nobody *broken
	if c, e := Open(none, nobody); c != nil || e != api.ErrArg {
		t.Error("an Undoer that panics", e)
	}
	u := &broken{}
	if c, e := Open(none, u); c == nil || e != api.OK || u.told != 1 {
		t.Error("one that can be asked", e, u.told)
	}
	if m.Commit(other) != api.OK || m.Checkpoint() != api.OK {
		t.Error("Commit of what asks")
	}
}
