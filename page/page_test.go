package page

import (
	"bytes"
	"slices"
	"testing"

	"muniment/api"
	"muniment/sample"
)

func fresh(t *testing.T, cells ...string) []byte {
	t.Helper()
	p, _ := New(1)
	for i, c := range cells {
		var e api.Errno
		if p, e = Insert(p, i, []byte(c)); e != api.OK {
			t.Fatal("Insert", e)
		}
	}
	return p
}

// P5.1: new pages, heads, cells.
func TestNew(t *testing.T) {
	p, e := New(7)
	want := make([]byte, 512)
	want[12], want[17] = 7, 2
	if !bytes.Equal(p, want) || e != api.OK {
		t.Error("New(7)")
	}
	for _, k := range []int{-1, 256} {
		if p, e := New(k); p != nil || e != api.ErrArg {
			t.Error("New of", k)
		}
	}
	for _, k := range []int{0, 255} {
		if p, e := New(k); e != api.OK || int(p[12]) != k {
			t.Error("New of", k, e)
		}
	}
	if q, e := Set(p, 0, 0); e != api.OK || !bytes.Equal(q, p) {
		t.Error("Set of noughts", e)
	}
	p, _ = Set(p, 1<<32-1, 5)
	p, _ = Seal(p, 9)
	if k, lsn, link, extra, e := Head(p); k != 7 || lsn != 9 || link != 1<<32-1 || extra != 5 || e != api.OK {
		t.Error("Head", k, lsn, link, extra, e)
	}
	for _, n := range []int{-1, 1 << 32} {
		if _, e := Set(p, n, 0); e != api.ErrArg {
			t.Error("Set link", n)
		}
		if _, e := Set(p, 0, n); e != api.ErrArg {
			t.Error("Set extra", n)
		}
	}
	q := fresh(t, "ab", "", "c")
	if c, e := Cell(q, 0); string(c) != "ab" || e != api.OK {
		t.Error("Cell")
	}
	for _, i := range []int{-1, 3} {
		if _, e := Cell(q, i); e != api.ErrArg {
			t.Error("Cell of", i)
		}
	}
	l, e := Cells(q)
	if n, _ := Count(q); n != 3 || len(l) != 3 || len(l[1]) != 0 || string(l[2]) != "c" || e != api.OK {
		t.Error("Cells")
	}
}

// Which pages are good, and that all calls refuse others.
func TestGood(t *testing.T) {
	mend := func(at int, b ...byte) []byte {
		p := fresh(t, "ab", "c")
		copy(p[at:], b)
		return p
	}
	for i, p := range [][]byte{
		nil, make([]byte, 511), make([]byte, 513), make([]byte, 512), mend(13, 1), mend(14, 122), mend(14, 121, 0), mend(16, 33, 0), mend(16, 1, 2), mend(26, 252, 1), mend(26, 255, 1, 2), mend(30, 254, 1), mend(30, 253, 1, 2), mend(28, 255, 255),
	} {
		if Good(p) {
			t.Errorf("page %d is called good", i)
		}
		_, e1 := Count(p)
		_, e2 := Free(p)
		_, e3 := Cell(p, -1)
		_, e4 := Cells(p)
		_, e5 := Insert(p, -1, nil)
		_, e6 := Remove(p, -1)
		_, e7 := Replace(p, -1, nil)
		_, e8 := Compact(p)
		_, e9 := Seal(p, 0)
		_, _, _, _, e10 := Head(p)
		_, e11 := Set(p, -1, 0)
		for j, e := range []api.Errno{e1, e2, e3, e4, e5, e6, e7, e8, e9, e10, e11} {
			if e != api.ErrForm {
				t.Errorf("page %d, call %d: %d", i, j, e)
			}
		}
		if e := Check(p); e != api.ErrForm && i != 3 {
			t.Errorf("Check of page %d: %d", i, e)
		}
	}
	for i, p := range [][]byte{mend(0, 9), mend(16, 34, 0), mend(30, 0, 2, 0, 0), mend(30, 253, 1, 0, 0)} {
		if !Good(p) {
			t.Errorf("page %d is not called good", i)
		}
	}
}

// P5.2 and P5.3: the chapter's examples, and where bytes lie.
func TestInsertRemove(t *testing.T) {
	p, _ := New(1)
	if n, _ := Free(p); n != 486 {
		t.Error("Free of a new page")
	}
	if n, _ := Free(fresh(t, "0123456789")); n != 472 {
		t.Error("Free with a cell of 10 bytes")
	}
	p, _ = Insert(p, 0, []byte("ab"))
	p, _ = Insert(p, 0, []byte("c"))
	if !bytes.Equal(p[16:18], []byte{253, 1}) || !bytes.Equal(p[26:34], []byte{253, 1, 1, 0, 254, 1, 2, 0}) {
		t.Error("slots", p[16:18], p[26:34])
	}
	p, _ = Remove(p, 0)
	if !bytes.Equal(p[16:18], []byte{253, 1}) || !bytes.Equal(p[26:34], []byte{254, 1, 2, 0, 0, 0, 0, 0}) || p[509] != 'c' {
		t.Error("Remove: low stays, the last slot is 0, bytes stay")
	}
	if _, e := Insert(p, 1, make([]byte, 477)); e != api.ErrFull {
		t.Error("Insert of 477 bytes")
	}
	q, e := Insert(p, 1, bytes.Repeat([]byte{5}, 476))
	if e != api.OK || !bytes.Equal(q[16:18], []byte{34, 0}) || q[509] != 5 {
		t.Error("Insert of 476 bytes", e, q[16:18])
	}
	if q, _ = Remove(p, 0); !bytes.Equal(q[16:18], []byte{0, 2}) {
		t.Error("low without cells is PageSize")
	}
	for _, i := range []int{-1, 2} {
		if _, e := Insert(p, i, make([]byte, 600)); e != api.ErrArg {
			t.Error("Insert at", i)
		}
	}
	for _, i := range []int{-1, 1} {
		_, e1 := Remove(p, i)
		if _, e2 := Replace(p, i, make([]byte, 600)); e1 != api.ErrArg || e2 != api.ErrArg {
			t.Error("Remove, Replace at", i)
		}
	}
}

func TestReplace(t *testing.T) {
	p := fresh(t, "abcd", "ef")
	q, e := Replace(p, 0, []byte("xy"))
	if e != api.OK || string(q[508:512]) != "xycd" || !bytes.Equal(q[26:30], []byte{252, 1, 2, 0}) || !bytes.Equal(q[16:18], p[16:18]) {
		t.Error("Replace by fewer bytes writes in place")
	}
	q, e = Replace(q, 0, []byte("uvwx"))
	if e != api.OK || string(q[502:506]) != "uvwx" || !bytes.Equal(q[26:30], []byte{246, 1, 4, 0}) {
		t.Error("Replace by more bytes than the slot says lies at low", q[26:30])
	}
	if _, e := Replace(p, 0, make([]byte, 477)); e != api.ErrFull {
		t.Error("Replace by too many")
	}
	q, e = Replace(p, 0, bytes.Repeat([]byte{7}, 476))
	if e != api.OK || !bytes.Equal(q[16:18], []byte{34, 0}) || string(q[510:512]) != "ef" {
		t.Error("Replace that fills the page lays it out anew", e)
	}
}

// P5.2, P5.3: a page is laid out anew just if too few bytes stand between the slots and low.
func TestLaidAnew(t *testing.T) {
	p := fresh(t, "hole", string(make([]byte, 300)))
	p, _ = Remove(p, 0) // low is 208, the slots end at 30
	for n, want := range map[int]int{174: 208 - 174, 175: 512 - 300 - 175} {
		if q, e := Insert(p, 1, make([]byte, n)); e != api.OK || int(q[16])+256*int(q[17]) != want {
			t.Error("Insert of", n, e, q[16:18])
		}
	}
	p = fresh(t, "hole", string(make([]byte, 300)), "x")
	p, _ = Remove(p, 0) // low is 207, the slots end at 34
	for n, want := range map[int]int{173: 207 - 173, 174: 512 - 300 - 174} {
		if q, e := Replace(p, 1, make([]byte, n)); e != api.OK || int(q[16])+256*int(q[17]) != want {
			t.Error("Replace by", n, e, q[16:18])
		}
	}
	full := fresh(t, string(make([]byte, 482)))
	q, e := Replace(full, 0, bytes.Repeat([]byte{7}, 482))
	if e != api.OK || !bytes.Equal(q[16:18], full[16:18]) || q[511] != 7 {
		t.Error("Replace by as many", e)
	}
}

// P5.4: Compact, Seal, Check.
func TestCheck(t *testing.T) {
	p := fresh(t, "abc", "", "d")
	p, _ = Remove(p, 0)
	p, _ = Compact(p)
	if !bytes.Equal(p[16:18], []byte{255, 1}) || !bytes.Equal(p[26:34], []byte{0, 2, 0, 0, 255, 1, 1, 0}) || !slices.Equal(p[34:511], make([]byte, 477)) {
		t.Error("Compact")
	}
	n, _ := New(1)
	s, _ := Seal(n, 5)
	if Check(make([]byte, 512)) != api.OK || Check(n) != api.ErrSum || Check(s) != api.OK || Check(make([]byte, 511)) != api.ErrForm {
		t.Error("the chapter's examples of Check")
	}
	s, _ = Seal(fresh(t, "abc", "", "d"), 1<<63)
	for i := range 512 * 8 {
		s[i/8] ^= 1 << (i % 8)
		if Check(s) == api.OK {
			t.Errorf("P5.5: bit %d turned is let pass", i)
		}
		s[i/8] ^= 1 << (i % 8)
	}
}

// P5.5: cells are those of a list with which the same was done.
func TestAsList(t *testing.T) {
	for seed := range uint64(60) {
		s := sample.New(seed)
		p, _ := New(3)
		var list [][]byte
		for range 300 {
			i := s.Below(len(list) + 1)
			c := s.Bytes(s.Below(1 + s.Below(90)))
			before := slices.Clone(p)
			q, e := p, api.OK
			free := 486
			for _, x := range list {
				free -= 4 + len(x)
			}
			switch op := s.Below(6); {
			case op < 3:
				if q, e = Insert(p, i, c); (e == api.ErrFull) != (free < len(c)+4) {
					t.Fatal("Insert", e)
				} else if e == api.OK {
					list = slices.Insert(list, i, c)
				}
			case i == len(list):
			case op == 3:
				q, e = Remove(p, i)
				list = slices.Delete(list, i, i+1)
			case op == 4:
				if q, e = Replace(p, i, c); (e == api.ErrFull) != (free < len(c)-len(list[i])) {
					t.Fatal("Replace", e)
				} else if e == api.OK {
					list[i] = c
				}
			default:
				q, e = Compact(p)
			}
			if !bytes.Equal(p, before) {
				t.Fatal("R4: the page handed in was changed")
			}
			if e == api.OK {
				p = q
			}
			cells, e := Cells(p)
			if e != api.OK || !slices.EqualFunc(cells, list, bytes.Equal) {
				t.Fatal("cells are not the list's")
			}
		}
	}
}
