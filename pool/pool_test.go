package pool

import (
	"bytes"
	"fmt"
	"slices"
	"testing"

	"muniment/api"
	"muniment/disk"
	"muniment/page"
	"muniment/sample"
	"muniment/wal"
)

type kit struct {
	d *disk.Disk
	l *wal.Log
	p *Pool
}

func opened(t *testing.T, d *disk.Disk, frames int) kit {
	t.Helper()
	l, e := wal.Open(d)
	if e != api.OK {
		t.Fatal(e)
	}
	p, e := New(d, l, frames)
	if e != api.OK {
		t.Fatal(e)
	}
	return kit{d, l, p}
}

func fresh(t *testing.T, pages, frames int) kit {
	t.Helper()
	d, _ := disk.New(pages, 1<<20)
	return opened(t, d, frames)
}

func numbered(n int) []byte {
	p, _ := page.New(1)
	p, _ = page.Set(p, n, 0)
	return p
}

func link(b []byte) int {
	_, _, n, _, _ := page.Head(b)
	return n
}

// put pins page n, puts a page of that number with a record's LSN, and unpins it.
func (k kit) put(t *testing.T, n, number int) uint64 {
	t.Helper()
	lsn, _ := k.l.Append(api.Rec{Kind: 1})
	if _, e := k.p.Pin(n); e != api.OK {
		t.Fatal("Pin", e)
	}
	if e := k.p.Put(n, numbered(number), lsn); e != api.OK {
		t.Fatal("Put", e)
	}
	k.p.Unpin(n)
	return lsn
}

// P8.1 and the chapter's examples.
func TestExamples(t *testing.T) {
	for _, n := range []int{-1, 0, 1025} {
		if p, e := New(nil, nil, n); p != nil || e != api.ErrArg {
			t.Error("New of", n)
		}
	}
	if p, e := New(nil, nil, 1024); p == nil || e != api.OK {
		t.Error("New of 1024")
	}
	p := fresh(t, 4, 2).p
	if fmt.Sprint(p.Frames()) != "[-1 -1]" {
		t.Error("frames at first")
	}
	for n, want := range []api.Errno{0, 0, api.ErrFull} {
		b, e := p.Pin(n)
		if e != want || e == 0 && !bytes.Equal(b, make([]byte, 512)) {
			t.Error("Pin", n, e)
		}
	}
	if p.Unpin(0) != api.OK || p.Unpin(0) != api.ErrState {
		t.Error("Unpin")
	}
	if _, e := p.Pin(2); e != api.OK || fmt.Sprint(p.Frames()) != "[2 1]" {
		t.Error("Pin in place of another", p.Frames())
	}
	if p.Unpin(9) != api.ErrState || p.Put(0, numbered(1), 1) != api.ErrState || p.Pins(2) != 1 || p.Pins(0) != 0 {
		t.Error("what is not held")
	}
	for _, n := range []int{-1, 4} {
		if _, e := p.Pin(n); e != api.ErrArg {
			t.Error("Pin", n)
		}
	}
}

// P8.2: the hand's way.
func TestHand(t *testing.T) {
	p := fresh(t, 9, 3).p
	see := func(want string) {
		t.Helper()
		if got := fmt.Sprint(p.Frames()); got != want {
			t.Errorf("frames %s, want %s", got, want)
		}
	}
	for _, n := range []int{0, 1, 2, 3} {
		p.Pin(n)
		p.Unpin(n)
	}
	see("[3 1 2]") // all touches went, then frame 0; the hand stands at 1
	p.Pin(1)       // touched anew
	p.Unpin(1)
	p.Pin(4)
	see("[3 1 4]") // frame 1 lost its touch, frame 2 had none; the hand stands at 0
	p.Unpin(4)
	p.Pin(5)
	see("[3 5 4]") // frame 0 lost its touch, frame 1 had none
	p.Pin(6)
	see("[6 5 4]") // frame 2 lost its touch, frame 0 had none
	p.Pin(4)
	if _, e := p.Pin(7); e != api.ErrFull {
		t.Error("all pinned", e)
	}
	p.Unpin(4)
	p.Pin(7)
	see("[6 5 7]")
}

func TestFetchFails(t *testing.T) {
	k := fresh(t, 4, 1)
	torn := slices.Clone(numbered(1))
	k.d.Write(2, torn)
	k.d.Write(3, bytes.Repeat([]byte{9}, 512))
	k.put(t, 0, 7)
	if _, e := k.p.Pin(2); e != api.ErrSum || fmt.Sprint(k.p.Frames()) != "[-1]" {
		t.Error("a page with another sum", e, k.p.Frames())
	}
	if _, e := k.p.Pin(3); e != api.ErrForm {
		t.Error("a page that is none", e)
	}
	if b, e := k.p.Pin(0); e != api.OK || link(b) != 7 || len(k.p.Dirty()) != 1 {
		t.Error("the page that went", e)
	}
}

// P8.2: a page that can't be written out stays.
func TestOutFails(t *testing.T) {
	k := fresh(t, 4, 1)
	k.put(t, 0, 7)
	k.d.Fuse(1) // the log is forced, the page is not written
	if _, e := k.p.Pin(1); e != api.ErrDead || fmt.Sprint(k.p.Frames()) != "[0]" {
		t.Error("writing out", e, k.p.Frames())
	}
	if b, e := k.p.Pin(0); e != api.OK || link(b) != 7 {
		t.Error("a page that is held is told of a dead device", e)
	}
}

// P8.3 and P8.4: what is dirty, and since when.
func TestDirty(t *testing.T) {
	k := fresh(t, 9, 2)
	see := func(want string) {
		t.Helper()
		if got := fmt.Sprint(k.p.Dirty()); got != want {
			t.Errorf("dirty %s, want %s", got, want)
		}
	}
	k.p.Pin(0)
	if k.p.Put(0, make([]byte, 512), 1) != api.ErrForm || k.p.Put(0, nil, 1) != api.ErrForm {
		t.Error("Put of what is no page")
	}
	k.p.Unpin(0)
	if k.p.Put(0, numbered(1), 1) != api.ErrState {
		t.Error("Put of a page that is not pinned")
	}
	a := k.put(t, 5, 1)
	k.put(t, 5, 2)
	b := k.put(t, 3, 3)
	see(fmt.Sprintf("[{3 %d} {5 %d}]", b, a))
	ops := k.d.Ops()
	if k.p.Write(5) != api.OK || k.d.Ops() != ops+2 || k.p.Write(5) != api.OK || k.d.Ops() != ops+2 || k.p.Write(7) != api.ErrState {
		t.Error("Write")
	}
	see(fmt.Sprintf("[{3 %d} {5 %d}]", b, a))
	k.put(t, 5, 4)
	k.p.WriteAll()
	k.put(t, 5, 6)
	k.p.Sync()
	see(fmt.Sprintf("[{5 %d}]", a)) // changed again since it was written: its Rec stays
	c := k.put(t, 7, 7)             // in place of 3, then 5 goes as well
	d := k.put(t, 8, 8)
	see(fmt.Sprintf("[{5 %d} {7 %d} {8 %d}]", a, c, d))
	k.p.Sync()
	if got := k.p.Dirty(); len(got) != 2 {
		t.Error("a page that is no longer held is certain", got)
	}
	k.p.WriteAll()
	k.p.Sync()
	see("[]")
	k.d.Fuse(0)
	if k.p.Sync() != api.ErrDead {
		t.Error("Sync of a device that dies")
	}
}

// P8.5: what Pin tells is what was put last; nothing is written ahead of the log; what is not dirty is certain.
func TestWhatever(t *testing.T) {
	for seed := range uint64(30) {
		s := sample.New(seed)
		k := fresh(t, 12, 1+s.Below(5))
		last := map[int]int{}
		for i := range 400 {
			n := s.Below(12)
			switch s.Below(8) {
			case 0:
				k.p.WriteAll()
			case 1:
				k.p.Sync()
			case 2:
				k.p.Write(n)
			case 3, 4:
				k.put(t, n, i+1)
				last[n] = i + 1
			default:
				b, e := k.p.Pin(n)
				if e != api.OK || link(b) != last[n] {
					t.Fatal("Pin tells another page", e)
				}
				k.p.Unpin(n)
			}
			check(t, k, last)
		}
	}
}

func check(t *testing.T, k kit, last map[int]int) {
	t.Helper()
	dirty := map[int]int{}
	for _, x := range k.p.Dirty() {
		dirty[x.Page] = 1
	}
	lost := k.d.Crash(bytes.Repeat([]byte{1}, 500))
	for n := range 12 {
		b, _ := k.d.Read(n)
		if _, lsn, _, _, e := page.Head(b); e == api.OK && lsn >= k.l.Forced() {
			t.Fatal("a page was written ahead of the log")
		}
		if b, _ := lost.Read(n); dirty[n] == 0 && link(b) != last[n] {
			t.Fatal("a page that is not dirty is not certain")
		}
	}
}
