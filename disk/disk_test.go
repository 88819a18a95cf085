package disk

import (
	"bytes"
	"testing"

	"muniment/api"
)

func filled(c byte) []byte { return bytes.Repeat([]byte{c}, api.PageSize) }

func made(t *testing.T, pages, log int) *Disk {
	t.Helper()
	d, e := New(pages, log)
	if e != api.OK {
		t.Fatal(e)
	}
	return d
}

func read(d *Disk, n int) string {
	b, e := d.Read(n)
	if e != api.OK {
		return e.Error()
	}
	return string([]byte{b[0], b[127], b[128], b[256], b[384], b[511]})
}

func log(d *Disk) string {
	b, e := d.Log()
	if e != api.OK {
		return e.Error()
	}
	return string(b)
}

// P6.1: pages.
func TestPages(t *testing.T) {
	for _, c := range []struct {
		pages, log int
		e          api.Errno
	}{{0, 0, 1}, {1, -1, 1}, {-5, 0, 1}, {65537, 0, 1}, {1, 1<<24 + 1, 1}, {65536, 1 << 24, 0}, {1, 0, 0}} {
		d, e := New(c.pages, c.log)
		if e != c.e || (d == nil) != (e != 0) || e == 0 && (d.Pages() != c.pages || d.Room() != c.log) {
			t.Errorf("New %d %d: %d", c.pages, c.log, e)
		}
	}
	d := made(t, 2, 9)
	b := filled('x')
	if read(d, 1) != "\x00\x00\x00\x00\x00\x00" || d.Write(1, b) != api.OK || read(d, 1) != "xxxxxx" {
		t.Error("Read of what was written")
	}
	b[0] = 'y'
	if got, _ := d.Read(1); read(d, 1) != "xxxxxx" || len(got) != 512 {
		t.Error("R4: what is handed in is kept")
	} else if got[0] = 'z'; read(d, 1) != "xxxxxx" {
		t.Error("R4: what is told is kept")
	}
	for _, n := range []int{-1, 2} {
		if _, e := d.Read(n); e != api.ErrArg || d.Write(n, filled(1)) != api.ErrArg {
			t.Error("no page", n)
		}
	}
	if d.Write(0, make([]byte, 511)) != api.ErrArg || d.Ops() != 1 {
		t.Error("Write of 511 bytes", d.Ops())
	}
}

// P6.2: the log and the mark.
func TestLog(t *testing.T) {
	d := made(t, 1, 5)
	if d.Append([]byte("abcdef")) != api.ErrFull || d.Append([]byte("abc")) != 0 || d.Append([]byte("xyz")) != api.ErrFull || d.Certain() != 0 || d.Cut(1, nil) != api.ErrArg {
		t.Error("Append")
	}
	if d.Force() != 0 || d.Certain() != 3 || d.Append([]byte("de")) != 0 || log(d) != "abcde" {
		t.Error("Force")
	}
	if d.Cut(4, nil) != api.ErrArg || d.Cut(-1, nil) != api.ErrArg || d.Cut(2, make([]byte, 65)) != api.ErrArg || d.Cut(2, []byte("m")) != 0 || log(d) != "cde" || d.Certain() != 1 {
		t.Error("Cut")
	}
	if m, e := d.Marked(); string(m) != "m" || e != 0 {
		t.Error("Marked")
	}
	if d.Trim(4) != api.ErrArg || d.Trim(-1) != api.ErrArg || d.Trim(2) != 0 || log(d) != "cd" || d.Certain() != 2 {
		t.Error("Trim")
	}
	if d.Mark(make([]byte, 65)) != api.ErrArg || d.Mark(make([]byte, 64)) != 0 {
		t.Error("Mark")
	}
	if d.Ops() != 6 {
		t.Error("Ops", d.Ops())
	}
}

// R4: nothing that is handed in is kept.
func TestKeepsNothing(t *testing.T) {
	d := made(t, 1, 9)
	b := []byte("ab")
	d.Mark(b)
	b[0] = 'x'
	if m, _ := d.Marked(); string(m) != "ab" {
		t.Error("Mark", m)
	}
	d.Cut(0, b)
	b[0] = 'y'
	if m, _ := d.Marked(); string(m) != "xb" {
		t.Error("Cut", m)
	}
	d.Fuse(0)
	d.Append(b)
	b[0] = 'z'
	if got := log(d.Crash([]byte{2})); got != "yb" {
		t.Error("Append", got)
	}
	if made(t, 1, 9).Cut(0, make([]byte, 64)) != api.OK {
		t.Error("a mark of 64 bytes")
	}
}

// P6.3: fuses; a dead device answers nothing.
func TestFuse(t *testing.T) {
	ops := []func(*Disk) api.Errno{
		func(d *Disk) api.Errno { return d.Write(0, filled(1)) }, (*Disk).Sync, func(d *Disk) api.Errno { return d.Append([]byte("a")) }, (*Disk).Force,
		func(d *Disk) api.Errno { return d.Cut(0, nil) }, func(d *Disk) api.Errno { return d.Trim(0) }, func(d *Disk) api.Errno { return d.Mark(nil) },
	}
	for i, op := range ops {
		d := made(t, 1, 9)
		d.Fuse(1)
		if d.Write(5, nil) != api.ErrArg || d.Append(make([]byte, 10)) != api.ErrFull {
			t.Error("refusals")
		}
		if op(d) != api.OK || d.Dead() || op(d) != api.ErrDead || !d.Dead() || d.Ops() != 1 {
			t.Errorf("fuse of 1, operation %d", i)
		}
		for j, dead := range ops {
			if dead(d) != api.ErrDead {
				t.Errorf("operation %d of a dead device", j)
			}
		}
		_, e1 := d.Read(9)
		_, e2 := d.Log()
		_, e3 := d.Marked()
		if e1 != api.ErrDead || e2 != api.ErrDead || e3 != api.ErrDead || d.Write(9, nil) != api.ErrDead || d.Append(make([]byte, 99)) != api.ErrDead {
			t.Error("a dead device answers")
		}
	}
	d := made(t, 1, 9)
	d.Fuse(0)
	d.Fuse(-1)
	for range 20 {
		if d.Force() != api.OK {
			t.Error("no fuse")
		}
	}
}

// P6.4: what a crash leaves.
func TestCrash(t *testing.T) {
	d := made(t, 4, 10)
	d.Write(1, filled('1'))
	if read(d.Crash([]byte{1}), 1)[0] != 0 || read(d.Crash([]byte{254}), 1) != "111111" || read(d, 1) != "111111" {
		t.Error("a write that was not certain")
	}
	d.Append([]byte{7, 8})
	if c := d.Crash([]byte{1, 0}); log(c) != "\x07" || read(c, 1)[0] != 0 || c.Certain() != 1 || c.Ops() != 0 {
		t.Error("a beginning of the log", log(c))
	}
	if log(d.Crash([]byte{0, 1})) != "\x07" {
		t.Error("256 modulo 3")
	}
	d.Force()
	if log(d.Crash(nil)) != "\x07\x08" {
		t.Error("the log, certain")
	}
	d.Fuse(0)
	if d.Write(2, filled('2')) != api.ErrDead {
		t.Error("the fuse")
	}
	for k, want := range map[byte]string{0: "\x00\x00\x00\x00\x00\x00", 2: "22\x00\x00\x00\x00", 4: "222\x00\x00\x00", 7: "2222\x00\x00", 8: "222222", 10: "\x00\x00\x00\x00\x00\x00", 19: "222222"} {
		if got := read(d.Crash([]byte{0, k}), 2); got != want {
			t.Errorf("torn by %d: %q", k, got)
		}
	}
	if read(d.Crash([]byte{1, 8}), 1)[0] != 0 {
		t.Error("choices by their places")
	}
}

func TestCrashOrder(t *testing.T) {
	d := made(t, 1, 10)
	d.Write(0, filled('a'))
	d.Sync()
	d.Write(0, filled('b'))
	d.Write(0, filled('c'))
	d.Mark([]byte("m"))
	for k, want := range map[string]string{"\x00\x00": "c", "\x01\x01": "a", "\x00\x01": "b", "\x01\x00": "c"} {
		c := d.Crash([]byte(k))
		if got := read(c, 0); got[:1] != want {
			t.Errorf("choice %q: %s", k, got)
		}
		if m, _ := c.Marked(); string(m) != "m" {
			t.Error("the mark")
		}
		if again := c.Crash([]byte{1, 1, 1}); read(again, 0) != read(c, 0) {
			t.Error("what a crash leaves is certain")
		}
	}
}

func TestCrashAtAppend(t *testing.T) {
	d := made(t, 1, 10)
	d.Append([]byte("ab"))
	d.Fuse(0)
	d.Append([]byte("cd"))
	for k, want := range []string{"", "a", "ab", "abc", "abcd", ""} {
		if got := log(d.Crash([]byte{byte(k)})); got != want || d.Certain() != 0 {
			t.Errorf("%d bytes: %q", k, got)
		}
	}
}

// P6.5: with all certain, no choice tells another device.
func TestCertain(t *testing.T) {
	d := made(t, 2, 10)
	d.Write(1, filled('x'))
	d.Append([]byte("ab"))
	d.Sync()
	d.Force()
	for k := range 256 {
		c := d.Crash([]byte{byte(k), byte(k * 7), byte(k * 3)})
		if log(c) != "ab" || read(c, 1) != "xxxxxx" || c.Certain() != 2 {
			t.Errorf("choice %d", k)
		}
	}
}
