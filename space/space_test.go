package space

import (
	"fmt"
	"slices"
	"testing"

	"muniment/api"
	"muniment/atom"
	"muniment/disk"
	"muniment/page"
	"muniment/sample"
)

func store(t *testing.T, pages int) *atom.Store {
	t.Helper()
	d, _ := disk.New(pages, 1<<22)
	s, e := atom.Open(d, 8)
	if e != api.OK {
		t.Fatal(e)
	}
	return s
}

func formattedStore(t *testing.T, pages int) *atom.Store {
	t.Helper()
	s := store(t, pages)
	if e := Format(s); e != api.OK {
		t.Fatal("Format", e)
	}
	return s
}

func group(t *testing.T, s *atom.Store) *atom.Group {
	t.Helper()
	g, e := s.Group()
	if e != api.OK {
		t.Fatal(e)
	}
	return g
}

func used(r atom.Reader) string {
	l, e := Used(r)
	return fmt.Sprint(l) + fmt.Sprint(int(e))
}

// The chapter's examples, P10.2.
func TestExamples(t *testing.T) {
	s := formattedStore(t, 8)
	if n, e := Own(s); n != 2 || e != api.OK {
		t.Error("Own", n, e)
	}
	g := group(t, s)
	for want := 2; want < 4; want++ {
		if n, e := Alloc(g); n != want || e != api.OK {
			t.Error("Alloc", n, e)
		}
		p, _ := g.Read(want)
		if fresh, _ := page.New(0); !slices.Equal(p[12:], fresh[12:]) {
			t.Error("a page that is given out reads as a new one")
		}
	}
	if used(g) != "[0 1 2 3]0" || used(s) != "[0 1]0" {
		t.Error("Used", used(g), used(s))
	}
	if n, _ := Left(g); n != 4 {
		t.Error("Left", n)
	}
	for n, want := range map[int]api.Errno{0: api.ErrState, 1: api.ErrState, 7: api.ErrState, 8: api.ErrState, -1: api.ErrState, 1 << 40: api.ErrState} {
		if e := Free(g, n); e != want {
			t.Error("Free", n, e)
		}
	}
	if Free(g, 2) != api.OK || Free(g, 2) != api.ErrState {
		t.Error("Free twice")
	}
	if n, _ := Alloc(g); n != 2 {
		t.Error("the lowest one again")
	}
	for range 4 {
		Alloc(g)
	}
	if n, e := Alloc(g); n != 0 || e != api.ErrFull {
		t.Error("Alloc of none", n, e)
	}
	g.Done(api.Rec{Kind: 1})
	if n, e := Left(s); n != 0 || e != api.OK || used(s) != "[0 1 2 3 4 5 6 7]0" {
		t.Error("behind the group", n, e)
	}
}

// P10.1: Format.
func TestFormat(t *testing.T) {
	s := store(t, 4)
	if ok, e := Formatted(s); ok || e != api.OK {
		t.Error("Formatted ahead")
	}
	g := group(t, s)
	_, e1 := Alloc(g)
	_, e2 := Used(s)
	_, e3 := Own(s)
	_, e4 := Left(s)
	_, e5 := Root(s, 99)
	for i, e := range []api.Errno{e1, e2, e3, e4, e5, Free(g, 2), SetRoot(g, 99, 0), Format(s)} {
		if e != api.ErrState {
			t.Error("not formatted", i, e)
		}
	}
	g.Drop()
	if Format(s) != api.OK || Format(s) != api.ErrState {
		t.Error("Format twice")
	}
	if ok, e := Formatted(s); !ok || e != api.OK {
		t.Error("Formatted behind")
	}
	if r, _, e := s.Log().Read(1); r.Kind != 1 || e != api.OK || s.Log().End() == 1 {
		t.Error("one group of kind 1")
	}
	for pages, want := range map[int]api.Errno{1: 7, 2: 7, 3: 7, 4: 0, 3000: 0, 3001: 0} {
		if e := Format(store(t, pages)); e != want {
			t.Error("Format of", pages, e)
		}
	}
	for pages, want := range map[int]int{4: 2, 3000: 2, 3001: 3, 65536: 23} {
		s := formattedStore(t, pages)
		own, _ := Own(s)
		left, _ := Left(s)
		if l, _ := Used(s); own != want || left != pages-want || len(l) != want {
			t.Error("own pages of", pages, own, left)
		}
	}
	if _, e := Formatted(nil); e == api.OK {
		t.Error("no reader")
	}
}

// P10.3: roots.
func TestRoots(t *testing.T) {
	s := formattedStore(t, 8)
	g := group(t, s)
	for i, want := range map[int]api.Errno{-1: 1, 0: 0, 15: 0, 16: 1} {
		if n, e := Root(g, i); n != 0 || e != want {
			t.Error("Root", i, n, e)
		}
		if e := SetRoot(g, i, 7); e != want {
			t.Error("SetRoot", i, e)
		}
	}
	if SetRoot(g, 3, 8) != api.ErrArg || SetRoot(g, 3, -1) != api.ErrArg {
		t.Error("SetRoot to no page")
	}
	if SetRoot(g, 5, 6) != api.OK || SetRoot(g, 5, 0) != api.OK {
		t.Error("SetRoot to page 0")
	}
	if n, _ := Root(g, 5); n != 0 {
		t.Error("Root set to 0", n)
	}
	a, _ := Root(g, 15)
	b, _ := Root(s, 15)
	c, _ := Root(g, 14)
	if a != 7 || b != 0 || c != 0 {
		t.Error("roots", a, b, c)
	}
}

// P10.4: all pages are in use or free, the lowest free one is given out.
func TestAsSet(t *testing.T) {
	s := formattedStore(t, 3100)
	src := sample.New(5)
	model := map[int]bool{0: true, 1: true, 2: true}
	for range 10 {
		g := group(t, s)
		for range 299 {
			n, _ := Alloc(g)
			model[n] = true
		}
		if _, e := g.Done(api.Rec{Kind: 1}); e != api.OK {
			t.Fatal(e)
		}
	}
	for range 30 {
		g := group(t, s)
		now := map[int]bool{}
		for n := range model {
			now[n] = true
		}
		for range 20 {
			if src.Below(2) == 0 {
				low := 0
				for now[low] {
					low++
				}
				if n, e := Alloc(g); n != low || e != api.OK {
					t.Fatal("Alloc", n, low, e)
				}
				now[low] = true
			} else if n := 3 + src.Below(3097); (Free(g, n) == api.OK) != now[n] {
				t.Fatal("Free", n)
			} else {
				delete(now, n)
			}
		}
		if l, _ := Used(g); len(l) != len(now) || !slices.IsSorted(l) {
			t.Fatal("Used within the group")
		}
		if src.Below(2) == 0 {
			g.Drop()
		} else {
			g.Done(api.Rec{Kind: 1})
			model = now
		}
		l, _ := Used(s)
		left, _ := Left(s)
		if len(l) != len(model) || left != 3100-len(model) {
			t.Fatal("Used, Left")
		}
		for _, n := range l {
			if !model[n] {
				t.Fatal("in use", n)
			}
		}
	}
}
