package wal

import (
	"bytes"
	"fmt"
	"reflect"
	"testing"

	"muniment/api"
	"muniment/disk"
	"muniment/sample"
)

func device(t *testing.T, log int) *disk.Disk {
	t.Helper()
	d, e := disk.New(1, log)
	if e != api.OK {
		t.Fatal(e)
	}
	return d
}

func opened(t *testing.T, d *disk.Disk) *Log {
	t.Helper()
	l, e := Open(d)
	if e != api.OK {
		t.Fatal(e)
	}
	return l
}

func record(s *sample.Source) api.Rec {
	r := api.Rec{Kind: 1 + s.Below(9), Tx: s.Next() >> s.Below(64), Prev: s.Next() >> s.Below(64), Next: s.Next() >> s.Below(64)}
	if n := s.Below(300); n > 150 {
		r.Data = s.Bytes(n)
	}
	for range s.Below(3) {
		c := api.Change{Page: s.Below(api.MaxPages), At: s.Below(513)}
		if n := s.Below(513 - c.At); n > 0 {
			c.B = s.Bytes(n)
		}
		if s.Below(4) == 0 {
			c = api.Change{Page: c.Page, Whole: true, B: s.Bytes(512)}
		}
		r.Changes = append(r.Changes, c)
	}
	return r
}

// P7.1: a record's bytes.
func TestBytes(t *testing.T) {
	b, e := Bytes(api.Rec{Kind: 1}, 1)
	if e != api.OK || len(b) != 14 || !bytes.Equal(b[:4], []byte{6, 0, 0, 0}) || !bytes.Equal(b[8:], []byte{1, 0, 0, 0, 0, 0}) {
		t.Error("the chapter's example", b, e)
	}
	b, _ = Bytes(api.Rec{Kind: 9, Tx: 128, Prev: 127, Next: 1<<64 - 1, Data: []byte{5}, Changes: []api.Change{{Page: 65535, At: 300, B: []byte{7, 8}}}}, 3)
	if want := []byte{9, 128, 1, 127, 255, 255, 255, 255, 255, 255, 255, 255, 255, 1, 1, 5, 1, 255, 255, 3, 172, 2, 0, 2, 7, 8}; !bytes.Equal(b[8:], want) {
		t.Error("a body", b[8:])
	}
	page := make([]byte, 512)
	for i, c := range []struct {
		r api.Rec
		e api.Errno
	}{
		{api.Rec{}, 1}, {api.Rec{Kind: 10}, 1}, {api.Rec{Kind: 1, Changes: []api.Change{{Page: -1}}}, 1}, {api.Rec{Kind: 1, Changes: []api.Change{{Page: 65536}}}, 1},
		{api.Rec{Kind: 1, Changes: []api.Change{{At: 513}}}, 1}, {api.Rec{Kind: 1, Changes: []api.Change{{At: 512}}}, 0}, {api.Rec{Kind: 1, Changes: []api.Change{{At: 512, B: []byte{1}}}}, 1},
		{api.Rec{Kind: 1, Changes: []api.Change{{At: -1}}}, 1}, {api.Rec{Kind: 1, Changes: []api.Change{{Whole: true, B: page[1:]}}}, 1}, {api.Rec{Kind: 1, Changes: []api.Change{{Whole: true, B: page}}}, 0},
		{api.Rec{Kind: 1, Data: make([]byte, 1<<20-8)}, 0}, {api.Rec{Kind: 1, Data: make([]byte, 1<<20-7)}, 2}, {api.Rec{Kind: 1, Data: make([]byte, 1<<21)}, 2}, {api.Rec{Kind: 10, Data: make([]byte, 1<<21)}, 1},
	} {
		b, e := Bytes(c.r, 1)
		if e != c.e || e != api.OK && b != nil {
			t.Errorf("case %d: %d, want %d", i, e, c.e)
		}
		if e == api.OK {
			if _, next, e := Body(b, 0, 1); e != api.OK || next != len(b) {
				t.Errorf("Body of case %d: %d", i, e)
			}
		}
	}
}

// P7.1: Body tells what Bytes wrote, and nothing else.
func TestBody(t *testing.T) {
	s := sample.New(7)
	for range 300 {
		r, lsn := record(s), s.Next()
		b, e := Bytes(r, lsn)
		if e != api.OK {
			t.Fatal(e)
		}
		all := append(append([]byte{1, 2, 3}, b...), 9)
		got, next, e := Body(all, 3, lsn)
		if e != api.OK || next != 3+len(b) || !reflect.DeepEqual(got, r) {
			t.Fatalf("%v became %v (%d)", r, got, e)
		}
		if _, _, e := Body(b, 0, lsn+1); e != api.ErrForm {
			t.Fatal("another LSN")
		}
		if _, _, e := Body(b[:s.Below(len(b))], 0, lsn); e != api.ErrForm {
			t.Fatal("bytes that end too early")
		}
		b[s.Below(len(b))] ^= 1 << s.Below(8)
		if r, next, e := Body(b, 0, lsn); e != api.ErrForm || next != 0 || r.Kind != 0 {
			t.Fatal("a bit turned")
		}
	}
	for _, at := range []int{-1, 1} {
		if _, _, e := Body(nil, at, 1); e != api.ErrArg {
			t.Error("Body at", at)
		}
	}
}

func TestBodyForms(t *testing.T) {
	for _, body := range [][]byte{
		{}, {0, 0, 0, 0, 0, 0}, {10, 0, 0, 0, 0, 0}, {1, 128, 0, 0, 0, 0, 0}, {1, 0, 0, 0, 0, 0, 0}, {1, 0, 0, 0, 1}, {1, 0, 0, 0, 0, 1}, {1, 0, 0, 0, 0, 1, 0, 0, 2, 0}, {1, 0, 0, 0, 0, 1, 0, 0, 1, 0},
		{1, 255, 255, 255, 255, 255, 255, 255, 255, 255, 2, 0, 0, 0, 0}, {1, 0, 0, 0, 0, 255, 255, 255, 255, 255, 255, 255, 255, 255, 1}, {1, 0, 0, 0, 0, 1, 128, 128, 4, 0, 0, 0}, {1, 0, 0, 0, 255, 255, 255, 255, 255, 255, 255, 255, 255, 1},
	} {
		b := low(low(nil, uint64(len(body)), 4), uint64(check(5, body)), 4)
		if _, _, e := Body(append(b, body...), 0, 5); e != api.ErrForm {
			t.Errorf("Body of %v: %d", body, e)
		}
	}
}

// P7.2 and P7.3: the chapter's example, and what is read.
func TestAppendRead(t *testing.T) {
	d := device(t, 100)
	l := opened(t, d)
	if l.First() != 1 || l.End() != 1 || l.Forced() != 1 || l.Checked() != 0 {
		t.Error("a new log")
	}
	if lsn, e := l.Append(api.Rec{Kind: 1}); lsn != 1 || e != api.OK || l.End() != 15 {
		t.Error("Append")
	}
	if r, next, e := l.Read(1); r.Kind != 1 || next != 15 || e != api.OK {
		t.Error("Read")
	}
	ops := d.Ops()
	if l.Forced() != 1 || l.Force(0) != api.OK || d.Ops() != ops || l.Force(1) != api.OK || l.Forced() != 15 || d.Ops() != ops+1 || l.Force(14) != api.OK || d.Ops() != ops+1 {
		t.Error("Force")
	}
	for lsn, want := range map[uint64]api.Errno{0: 1, 2: 1, 15: 17, 16: 1, 1<<64 - 1: 1} {
		if r, next, e := l.Read(lsn); e != want || next != 0 || r.Kind != 0 {
			t.Errorf("Read %d: %d", lsn, e)
		}
	}
	if _, e := l.Append(api.Rec{}); e != api.ErrArg {
		t.Error("Append of a bad record")
	}
	if lsn, e := l.Append(api.Rec{Kind: 1, Data: make([]byte, 100)}); e != api.ErrFull || lsn != 0 || l.End() != 15 {
		t.Error("Append without room")
	}
	d.Fuse(0)
	if _, e := l.Append(api.Rec{Kind: 1}); e != api.ErrDead || l.End() != 15 || l.Force(15) != api.ErrDead || l.Force(1) != api.OK {
		t.Error("a dead device")
	}
	if r, next, e := l.Read(1); r.Kind != 1 || next != 15 || e != api.OK {
		t.Error("Read of a dead device")
	}
	if _, e := Open(d); e != api.ErrDead {
		t.Error("Open of a dead device")
	}
}

func TestOpenMark(t *testing.T) {
	for n, want := range map[int]api.Errno{0: 0, 1: 4, 15: 4, 16: 0, 17: 4} {
		d := device(t, 10)
		d.Mark(make([]byte, n))
		if _, e := Open(d); e != want {
			t.Errorf("a mark of %d bytes: %d", n, e)
		}
	}
}

// P7.4: Cut and Check.
func TestCutCheck(t *testing.T) {
	d := device(t, 1000)
	l := opened(t, d)
	for i := range 5 {
		l.Append(api.Rec{Kind: 1 + i})
	}
	if l.Cut(15) != api.ErrArg || l.Check(15) != api.ErrArg || l.Cut(1) != api.OK {
		t.Error("ahead of Force")
	}
	l.Force(29)
	for lsn, want := range map[uint64]api.Errno{0: 1, 16: 1, 71: 1, 72: 1} {
		if l.Check(lsn) != want {
			t.Error("Check", lsn)
		}
	}
	if l.Check(29) != api.OK || l.Checked() != 29 || l.Cut(43) != api.ErrArg || l.Cut(16) != api.ErrArg || l.Cut(15) != api.OK || l.First() != 15 {
		t.Error("Check, Cut")
	}
	if _, _, e := l.Read(1); e != api.ErrArg {
		t.Error("a record that was cut")
	}
	if lsn, _ := l.Append(api.Rec{Kind: 9}); lsn != l.Forced() || l.Check(lsn) != api.ErrArg || l.Cut(lsn) != api.ErrArg {
		t.Error("a record that is not forced", lsn)
	}
	l2 := opened(t, d.Crash(nil))
	if l2.First() != 15 || l2.Checked() != 29 || l2.End() != 71 || l2.Forced() != 71 {
		t.Error("opened anew")
	}
	if r, next, e := l2.Read(15); r.Kind != 2 || next != 29 || e != api.OK {
		t.Error("Read behind a cut")
	}
	d2 := device(t, 1000)
	l3 := opened(t, d2)
	l3.Append(api.Rec{Kind: 1})
	l3.Force(1)
	if l3.Cut(15) != api.OK || l3.First() != 15 || l3.End() != 15 {
		t.Error("Cut at the end")
	}
}

// P7.5: behind a crash a beginning of the records is there, those that were forced among them.
func TestCrash(t *testing.T) {
	s := sample.New(11)
	d := device(t, 20000)
	l := opened(t, d)
	var all []string
	var lsns []uint64
	sure := 0
	for i := range 40 {
		r := record(s)
		lsn, e := l.Append(r)
		if e != api.OK {
			t.Fatal(e)
		}
		all, lsns = append(all, fmt.Sprint(r)), append(lsns, lsn)
		if i%5 == 2 {
			l.Force(lsn)
			sure = len(all)
		}
		if i == 7 {
			l.Check(lsns[5])
		}
		for range 20 {
			c := d.Crash(s.Bytes(2))
			again := opened(t, c)
			n := 0
			for lsn := again.First(); lsn != again.End(); n++ {
				r, next, e := again.Read(lsn)
				if e != api.OK || fmt.Sprint(r) != all[n] || lsn != lsns[n] {
					t.Fatal("another record", lsn, e)
				}
				lsn = next
			}
			if n < sure || again.Checked() != l.Checked() || c.Certain() != int(again.End()-1) {
				t.Fatalf("%d records of %d that were forced", n, sure)
			}
		}
	}
}
