package chain

import (
	"bytes"
	"fmt"
	"testing"

	"muniment/api"
	"muniment/atom"
	"muniment/disk"
	"muniment/page"
	"muniment/sample"
	"muniment/space"
)

func group(t *testing.T, pages int) (*atom.Store, *atom.Group) {
	t.Helper()
	d, _ := disk.New(pages, 1<<22)
	s, _ := atom.Open(d, 8)
	if e := space.Format(s); e != api.OK {
		t.Fatal(e)
	}
	g, e := s.Group()
	if e != api.OK {
		t.Fatal(e)
	}
	return s, g
}

// P12.1: how many pages, which, and refusals.
func TestWrite(t *testing.T) {
	for n, want := range map[int]int{-1 << 63: 1, -1: 1, 0: 1, 1: 1, 480: 1, 481: 2, 960: 2, 961: 3, 8192: 18, 1<<63 - 1: 1<<63/480 + 1} {
		if got := Need(n); got != want {
			t.Error("Need", n, got)
		}
	}
	_, g := group(t, 8)
	first, e := Write(g, make([]byte, 1000))
	if p, _ := Pages(g, first); first != 2 || e != api.OK || fmt.Sprint(p) != "[2 3 4]" {
		t.Error("the chapter's example", first, p, e)
	}
	if n, e := Write(g, make([]byte, 8193)); n != 0 || e != api.ErrBig {
		t.Error("too many bytes", e)
	}
	if n, e := Write(g, make([]byte, 2000)); n != 0 || e != api.ErrFull {
		t.Error("without pages", e)
	}
	_, g = group(t, 30)
	for _, n := range []int{0, 1, 480, 481, 8192} {
		b := bytes.Repeat([]byte{7}, n)
		first, e := Write(g, b)
		got, _ := Read(g, first)
		if p, _ := Pages(g, first); e != api.OK || !bytes.Equal(got, b) || len(p) != Need(n) {
			t.Error("a chain of", n, e)
		}
		if e := Free(g, first); e != api.OK {
			t.Error("Free", e)
		}
	}
	if l, _ := space.Used(g); len(l) != 2 {
		t.Error("Free gives all back", l)
	}
	g.Drop()
	if _, e := Write(g, make([]byte, 9000)); e != api.ErrState {
		t.Error("a group that is over", e)
	}
}

// Where first is no chain's it ends all the same.
func TestNoChain(t *testing.T) {
	s, g := group(t, 8)
	first, _ := Write(g, nil)
	p, _ := g.Read(first)
	p, _ = page.Set(p, first, 0)
	g.Write(first, p)
	for n := -1; n < 9; n++ {
		_, e1 := Read(g, n)
		_, e2 := Pages(g, n)
		if e3 := Free(g, n); e1 == api.OK || e2 == api.OK || e3 == api.OK {
			t.Error("page", n, e1, e2, e3)
		}
	}
	if _, e := Read(nil, 1); e == api.OK {
		t.Error("no reader")
	}
	if _, e := Read(s, first); e == api.OK {
		t.Error("a page that is not there yet")
	}
}

// P12.2: Read of Write are the bytes, whatever else is written and freed.
func TestWhatever(t *testing.T) {
	src := sample.New(3)
	s, g := group(t, 200)
	chains := map[int][]byte{}
	for i := range 600 {
		if b := src.Bytes(src.Below(1 + src.Below(8193))); src.Below(2) == 0 {
			first, e := Write(g, b)
			if e == api.OK {
				chains[first] = b
			}
			if e == api.ErrFull {
				break
			}
		}
		used := 2
		for first, b := range chains {
			got, e := Read(g, first)
			if e != api.OK || !bytes.Equal(got, b) {
				t.Fatal("Read", first, e)
			}
			used += Need(len(b))
			if src.Below(9) == 0 {
				if e := Free(g, first); e != api.OK {
					t.Fatal("Free", e)
				}
				used -= Need(len(b))
				delete(chains, first)
			}
		}
		if l, _ := space.Used(g); len(l) != used {
			t.Fatal("pages in use", len(l), used)
		}
		if i%10 == 9 {
			if _, e := g.Done(api.Rec{Kind: 1}); e != api.OK {
				t.Fatal(e)
			}
			g, _ = s.Group()
		}
	}
}
