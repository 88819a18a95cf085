package atom

import (
	"bytes"
	"fmt"
	"testing"

	"muniment/api"
	"muniment/disk"
	"muniment/page"
	"muniment/sample"
)

func device(t *testing.T, pages, log int) *disk.Disk {
	t.Helper()
	d, e := disk.New(pages, log)
	if e != api.OK {
		t.Fatal(e)
	}
	return d
}

func opened(t *testing.T, d *disk.Disk, frames int) *Store {
	t.Helper()
	s, e := Open(d, frames)
	if e != api.OK {
		t.Fatal("Open", e)
	}
	return s
}

func group(t *testing.T, s *Store) *Group {
	t.Helper()
	g, e := s.Group()
	if e != api.OK {
		t.Fatal("Group", e)
	}
	return g
}

// numbered tells a page of that kind with a cell that hangs on n.
func numbered(kind, n int) []byte {
	p, _ := page.New(kind)
	p, _ = page.Set(p, n, n/2)
	p, _ = page.Insert(p, 0, bytes.Repeat([]byte{byte(n)}, n%300))
	return p
}

// body tells what a page says beside its LSN and sum.
func body(b []byte) string {
	if len(b) < 12 {
		return ""
	}
	return string(b[12:])
}

func reads(t *testing.T, r Reader, pages int) []string {
	t.Helper()
	out := make([]string, pages)
	for n := range out {
		b, e := r.Read(n)
		if e != api.OK || page.Check(b) != api.OK && !page.Good(b) {
			t.Fatal("Read", n, e)
		}
		out[n] = body(b)
	}
	return out
}

// The chapter's examples, P9.2.
func TestExamples(t *testing.T) {
	d := device(t, 8, 4096)
	s := opened(t, d, 4)
	g := group(t, s)
	if _, e := s.Group(); e != api.ErrState {
		t.Error("two groups")
	}
	seven, _ := page.New(7)
	if g.Write(1, seven) != api.OK {
		t.Error("Write")
	}
	own, _ := g.Read(1)
	other, _ := s.Read(1)
	if body(own) != body(seven) || body(other) != body(make([]byte, 512)) {
		t.Error("a group sees its own writes alone")
	}
	if fmt.Sprint(g.Pages()) != "[1]" {
		t.Error("Pages", g.Pages())
	}
	lsn, e := g.Done(api.Rec{Kind: 1, Tx: 5})
	got, _ := s.Read(1)
	if lsn != 1 || e != api.OK || body(got) != body(seven) || page.Check(got) != api.OK {
		t.Error("Done", lsn, e)
	}
	if _, l, _, _, _ := page.Head(got); l != lsn {
		t.Error("a page's LSN", l)
	}
	if _, e := g.Read(1); e != api.ErrState {
		t.Error("Read of a group that is over")
	}
	r, _, e := s.Log().Read(1)
	if e != api.OK || r.Kind != 1 || r.Tx != 5 || len(r.Changes) != 1 || r.Changes[0].Page != 1 {
		t.Error("the record", r, e)
	}
	for choice, want := range map[byte]string{0: body(make([]byte, 512)), 1: body(make([]byte, 512))} {
		s := opened(t, d.Crash([]byte{choice, 0}), 4)
		if b, _ := s.Read(1); body(b) != want {
			t.Error("a crash with a part of the record", choice)
		}
	}
	n := len(mustLog(d))
	s = opened(t, d.Crash([]byte{byte(n), byte(n / 256)}), 4)
	if b, _ := s.Read(1); body(b) != body(seven) {
		t.Error("a crash with the whole record")
	}
}

func mustLog(d *disk.Disk) []byte {
	b, _ := d.Log()
	return b
}

// P9.1, P9.2, P9.3: refusals.
func TestRefusals(t *testing.T) {
	d := device(t, 4, 2000)
	for _, n := range []int{0, 1025, -1} {
		if s, e := Open(d, n); s != nil || e != api.ErrArg {
			t.Error("Open with frames", n)
		}
	}
	s := opened(t, d, 1)
	g := group(t, s)
	good, _ := page.New(1)
	for _, n := range []int{-1, 4} {
		_, e1 := g.Read(n)
		_, e2 := s.Read(n)
		if e1 != api.ErrArg || e2 != api.ErrArg || g.Write(n, nil) != api.ErrArg {
			t.Error("no page", n)
		}
	}
	if g.Write(1, nil) != api.ErrForm || g.Write(1, make([]byte, 512)) != api.ErrForm {
		t.Error("Write of what is no page")
	}
	for _, r := range []api.Rec{{}, {Kind: 8}, {Kind: -1}, {Kind: 1, Changes: []api.Change{{}}}} {
		if lsn, e := g.Done(r); lsn != 0 || e != api.ErrArg {
			t.Error("Done", r, e)
		}
	}
	if _, e := g.Done(api.Rec{Kind: 1, Data: make([]byte, 1<<20)}); e != api.ErrBig {
		t.Error("Done of too much", e)
	}
	if _, e := g.Done(api.Rec{Kind: 1, Data: make([]byte, 2000)}); e != api.ErrFull {
		t.Error("Done without room", e)
	}
	if s.Checkpoint(0, nil) != api.ErrState || s.Clean() != api.ErrState {
		t.Error("Checkpoint, Clean with an open group")
	}
	s.Pool().Pin(3)
	if _, e := g.Read(1); e != api.ErrFull || g.Write(1, nil) != api.ErrFull {
		t.Error("no frame", e)
	}
	s.Pool().Unpin(3)
	if g.Write(1, good) != api.OK || g.Write(2, good) != api.OK {
		t.Error("one frame is enough")
	}
	if _, e := g.Done(api.Rec{Kind: 7}); e != api.OK {
		t.Error("a group that was refused stays open", e)
	}
	if g.Write(9, nil) != api.ErrArg || g.Write(1, nil) != api.ErrState {
		t.Error("Write of a group that is over")
	}
	if _, e := g.Done(api.Rec{}); e != api.ErrState {
		t.Error("Done of a group that is over")
	}
	g = group(t, s)
	g.Write(0, good)
	g.Drop()
	g.Drop()
	if b, _ := s.Read(0); body(b) != body(make([]byte, 512)) {
		t.Error("Drop changes a page")
	}
	if _, e := group(t, s).Done(api.Rec{Kind: 3}); e != api.OK {
		t.Error("a group without pages", e)
	}
}

// P9.4: checkpoints, and what they cut.
func TestCheckpoint(t *testing.T) {
	d := device(t, 8, 1<<16)
	s := opened(t, d, 4)
	if data, lsn := s.Checked(); len(data) != 0 || lsn != 0 {
		t.Error("Checked at first")
	}
	if s.Checkpoint(0, make([]byte, 4097)) != api.ErrBig || s.Checkpoint(0, make([]byte, 4096)) != api.OK {
		t.Error("a checkpoint's data")
	}
	var lsns []uint64
	for i := range 4 {
		g := group(t, s)
		g.Write(i, numbered(1, i))
		lsn, _ := g.Done(api.Rec{Kind: 1})
		lsns = append(lsns, lsn)
	}
	if s.Checkpoint(0, []byte("x")) != api.OK || s.Log().First() != lsns[0] {
		t.Error("cut at what is dirty", s.Log().First(), lsns[0])
	}
	s.Pool().WriteAll()
	s.Pool().Sync()
	if s.Checkpoint(lsns[2]+3, []byte("y")) != api.OK || s.Log().First() != lsns[2] {
		t.Error("cut at keep, as far as may be", s.Log().First(), lsns)
	}
	if s.Checkpoint(1, []byte("z")) != api.OK || s.Log().First() != lsns[2] {
		t.Error("cut at a keep that is cut already")
	}
	if s.Checkpoint(0, []byte("abc")) != api.OK {
		t.Error("Checkpoint")
	}
	data, lsn := s.Checked()
	if string(data) != "abc" || lsn != s.Log().First() {
		t.Error("Checked", string(data), lsn)
	}
	s = opened(t, d.Crash(nil), 2)
	if data, l := s.Checked(); string(data) != "abc" || l != lsn {
		t.Error("Checked behind a crash")
	}
	if b, _ := s.Read(3); body(b) != body(numbered(1, 3)) {
		t.Error("Read behind a crash")
	}
	small := opened(t, device(t, 2, 100), 1)
	if small.Checkpoint(0, make([]byte, 100)) != api.ErrFull {
		t.Error("a checkpoint without room")
	}
}

// run does what the seed says on a device; it tells the pages behind each group, and how many of these were forced.
type run struct {
	states [][]string
	lsns   []uint64
	sure   int
	s      *Store
}

const runPages = 6

func play(d *disk.Disk, seed uint64, frames int) *run {
	s, e := Open(d, frames)
	out := &run{s: s, states: [][]string{make([]string, runPages)}}
	for n := range runPages {
		out.states[0][n] = body(make([]byte, 512))
	}
	src := sample.New(seed)
	for i := 0; i < 60 && e == api.OK && !d.Dead(); i++ {
		switch src.Below(12) {
		case 0:
			out.s.Checkpoint(0, []byte{byte(i)})
		case 1:
			out.s.Clean()
		case 2:
			out.s.Pool().WriteAll()
		case 3:
			out.s.Pool().Sync()
		case 4:
			if out.s.Force(out.s.Log().End()) == api.OK {
				out.sure = len(out.lsns)
			}
		default:
			out.group(src, i)
		}
	}
	return out
}

func (r *run) group(src *sample.Source, i int) {
	g, e := r.s.Group()
	if e != api.OK {
		return
	}
	state := append([]string(nil), r.states[len(r.states)-1]...)
	for range src.Below(4) {
		n := src.Below(runPages)
		b := numbered(3, i)
		if old, e := g.Read(n); e == api.OK && src.Below(2) == 0 && page.Good(old) {
			b, _ = page.Set(old, i, 5)
		}
		g.Write(n, b)
		state[n] = body(b)
	}
	// the device may die when the record is there: it counts as the last one then
	lsn, e := g.Done(api.Rec{Kind: 2, Tx: uint64(i)})
	if e == api.OK || e == api.ErrDead {
		if e == api.ErrDead {
			g.Drop()
			lsn = 1 << 60
		}
		r.states = append(r.states, state)
		r.lsns = append(r.lsns, lsn)
	}
}

// P9.5: behind a crash at whatever operation a beginning of the groups is there, what was forced among them.
func TestCrashes(t *testing.T) {
	for seed := range uint64(12) {
		for fuse := range 400 {
			src := sample.New(seed*1000 + uint64(fuse))
			d := device(t, runPages, 1<<17)
			d.Fuse(fuse)
			r := play(d, seed, 1+int(seed%3))
			choice := src.Bytes(40)
			left := d.Crash(choice)
			state := recovered(t, left, r)
			// the device dies while it is opened, and is opened again
			for again := range 9 {
				c := d.Crash(choice)
				c.Fuse(again)
				Open(c, 2)
				if got := fmt.Sprint(recovered(t, c.Crash(src.Bytes(20)), r)); got != fmt.Sprint(state) {
					t.Fatalf("seed %d fuse %d: opened again it is another state", seed, fuse)
				}
			}
			if !d.Dead() {
				break
			}
		}
	}
}

// recovered opens what is left, and tells its pages, which must be those behind as many groups as the log says.
func recovered(t *testing.T, d *disk.Disk, r *run) []string {
	t.Helper()
	s := opened(t, d, 3)
	got := fmt.Sprint(reads(t, s, runPages))
	done := 0
	for i, lsn := range r.lsns {
		if lsn < s.Log().End() {
			done = i + 1
		}
	}
	if done < len(r.lsns) && r.lsns[done] == 1<<60 && got != fmt.Sprint(r.states[done]) {
		done++
	}
	if done < r.sure {
		t.Fatalf("%d groups of %d that were forced", done, r.sure)
	}
	if got != fmt.Sprint(r.states[done]) {
		t.Fatalf("the pages are not those behind %d groups", done)
	}
	return reads(t, s, runPages)
}

// P9.5: frames and checkpoints change nothing of what is read.
func TestFramesAreNotSeen(t *testing.T) {
	for seed := range uint64(5) {
		var want string
		for frames := 1; frames < 8; frames += 3 {
			r := play(device(t, runPages, 1<<20), seed, frames)
			got := fmt.Sprint(reads(t, r.s, runPages))
			if want == "" {
				want = got
			}
			if got != want || got != fmt.Sprint(r.states[len(r.states)-1]) {
				t.Error("frames are seen", seed, frames)
			}
		}
	}
}

// R4: nothing that is handed in is kept.
func TestKeepsNothing(t *testing.T) {
	s := opened(t, device(t, 4, 1<<14), 2)
	g := group(t, s)
	p := numbered(1, 7)
	g.Write(1, p)
	p[100] ^= 1
	own, _ := g.Read(1)
	own[101] ^= 1
	if b, _ := g.Read(1); body(b) != body(numbered(1, 7)) {
		t.Error("Write keeps its argument, or Read tells what is kept")
	}
	g.Drop()
	data := []byte("abc")
	s.Checkpoint(0, data)
	data[0] = 'x'
	got, _ := s.Checked()
	got[1] = 'y'
	if again, _ := s.Checked(); string(again) != "abc" {
		t.Error("Checkpoint keeps its argument", string(again))
	}
}

func TestDeadStore(t *testing.T) {
	d := device(t, 4, 1000)
	s := opened(t, d, 1)
	s.Read(1)
	d.Fuse(0)
	if s.Clean() != api.ErrDead || s.Checkpoint(0, nil) != api.ErrDead || s.Force(99) != api.ErrDead {
		t.Error("a dead device")
	}
	if _, e := s.Read(2); e != api.ErrDead {
		t.Error("Read", e)
	}
	if _, e := Open(d, 1); e != api.ErrDead {
		t.Error("Open", e)
	}
	var none *Store
	if _, e := none.Group(); e == api.OK {
		t.Error("a group of no store")
	}
	if _, e := none.Read(0); e == api.OK || none.Log() != nil {
		t.Error("no store")
	}
}

// Who dies over a checkpoint again and again does not fill the log.
func TestCheckpointAgain(t *testing.T) {
	d := device(t, 4, 900)
	s := opened(t, d, 2)
	g := group(t, s)
	g.Write(1, numbered(1, 5))
	g.Done(api.Rec{Kind: 1})
	s.Clean()
	for i := range 60 {
		d.Fuse(i % 4) // it dies when it appends, forces, marks or cuts
		if e := s.Checkpoint(0, make([]byte, 100)); e != api.ErrDead && e != api.OK {
			t.Fatal("Checkpoint", i, e)
		}
		d = d.Crash([]byte{255, 255, 255})
		s = opened(t, d, 2)
	}
	if e := s.Checkpoint(0, make([]byte, 100)); e != api.OK {
		t.Error("Checkpoint", e)
	}
	if data, lsn := s.Checked(); len(data) != 100 || s.Log().First() != lsn {
		t.Error("Checked", len(data), lsn)
	}
	if b, _ := s.Read(1); body(b) != body(numbered(1, 5)) {
		t.Error("Read")
	}
	before, _ := s.Checked()
	if e := s.Checkpoint(0, []byte("x")); e != api.OK {
		t.Error("another one", e)
	}
	if data, _ := s.Checked(); string(data) != "x" || len(before) != 100 {
		t.Error("another one's data")
	}
}
