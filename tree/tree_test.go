package tree

import (
	"bytes"
	"fmt"
	"slices"
	"sort"
	"testing"

	"muniment/api"
	"muniment/atom"
	"muniment/disk"
	"muniment/page"
	"muniment/sample"
	"muniment/space"
)

func store(t *testing.T, pages int) *atom.Store {
	t.Helper()
	d, _ := disk.New(pages, 1<<24)
	s, e := atom.Open(d, 32)
	if e != api.OK {
		t.Fatal(e)
	}
	if e := space.Format(s); e != api.OK {
		t.Fatal(e)
	}
	return s
}

// within does something in a group, which is done.
func within(t *testing.T, s *atom.Store, do func(g *atom.Group)) {
	t.Helper()
	g, e := s.Group()
	if e != api.OK {
		t.Fatal(e)
	}
	do(g)
	if _, e := g.Done(api.Rec{Kind: 1}); e != api.OK {
		t.Fatal(e)
	}
}

func made(t *testing.T, s *atom.Store) int {
	t.Helper()
	root := 0
	within(t, s, func(g *atom.Group) { root, _ = Make(g) })
	return root
}

func b(s string) []byte { return []byte(s) }

// P11.1, P11.2: the chapter's examples.
func TestExamples(t *testing.T) {
	s := store(t, 8)
	root := made(t, s)
	within(t, s, func(g *atom.Group) {
		if v, ok, e := Get(g, root, b("a")); v != nil || ok || e != api.OK {
			t.Error("Get of none")
		}
		for i, want := range []string{"", "1"} {
			if old, had, e := Put(g, root, b("b"), b(fmt.Sprint(i+1))); string(old) != want || had != (i > 0) || e != api.OK {
				t.Error("Put", i, old, had, e)
			}
		}
		for _, want := range []string{"2", ""} {
			if old, had, e := Take(g, root, b("b")); string(old) != want || had != (want != "") || e != api.OK {
				t.Error("Take", old, had, e)
			}
		}
		Put(g, root, b("a"), nil)
		Put(g, root, b("c"), nil)
		for key, want := range map[string]string{"b": "c", "": "a", "d": "-", "a": "a", "c": "c"} {
			if k, _, ok, e := Seek(g, root, b(key)); ok != (want != "-") || ok && string(k) != want || e != api.OK {
				t.Error("Seek", key, string(k), e)
			}
		}
		for key, want := range map[string]string{"c": "a", "": "c", "a": "-", "d": "c", "b": "a"} {
			if k, _, ok, e := Last(g, root, b(key)); ok != (want != "-") || ok && string(k) != want || e != api.OK {
				t.Error("Last", key, string(k), e)
			}
		}
	})
	if n, e := Depth(s, root); n != 1 || e != api.OK {
		t.Error("Depth", n, e)
	}
}

// All: bytes that are too few or too many, readers' errors.
func TestRefusals(t *testing.T) {
	s := store(t, 8)
	root := made(t, s)
	long := make([]byte, 97)
	g, _ := s.Group()
	for i, key := range [][]byte{nil, long} {
		_, _, e1 := Put(g, root, key, nil)
		_, _, e2 := Take(g, root, key)
		_, _, e3 := Get(g, root, key)
		_, _, _, e4 := Seek(g, root, key)
		_, _, _, e5 := Last(g, root, key)
		if e1 != api.ErrArg || e2 != api.ErrArg || e3 != api.ErrArg || (e4 != api.ErrArg) != (i == 0) || (e5 != api.ErrArg) != (i == 0) {
			t.Error("keys", i, e1, e2, e3, e4, e5)
		}
	}
	if _, _, e := Put(g, root, b("a"), make([]byte, 129)); e != api.ErrArg {
		t.Error("a value of 129 bytes")
	}
	if _, _, e := Put(g, root, make([]byte, 96), make([]byte, 128)); e != api.OK {
		t.Error("the greatest entry", e)
	}
	for _, most := range []int{0, -1} {
		if ok, e := Empty(g, root, most); ok || e != api.ErrArg {
			t.Error("Empty of", most)
		}
	}
	g.Drop()
	if _, _, e := Put(g, root, nil, nil); e != api.ErrState {
		t.Error("a group that is over", e)
	}
	if _, _, e := Get(s, 8, b("a")); e != api.ErrArg {
		t.Error("no page", e)
	}
	// roots that are none: whatever is answered, it ends
	for n := range 8 {
		Get(s, n, b("a"))
		Seek(s, n, b("a"))
		Pages(s, n)
		Depth(s, n)
		Check(s, n)
	}
	Get(nil, 1, b("a"))
	Make(nil)
}

func TestFull(t *testing.T) {
	s := store(t, 6)
	root := made(t, s)
	g, _ := s.Group()
	var e api.Errno
	n := 0
	for ; e == api.OK && n < 99; n++ {
		_, _, e = Put(g, root, b(fmt.Sprintf("%090d", n)), make([]byte, 128))
	}
	if e != api.ErrFull || n < 5 {
		t.Error("without pages", n, e)
	}
	g.Drop()
}

// A page that leads to itself.
func TestRing(t *testing.T) {
	s := store(t, 9)
	root := made(t, s)
	within(t, s, func(g *atom.Group) {
		p, _ := page.New(innerKind)
		p, _ = page.Insert(p, 0, branch(root, nil))
		g.Write(root, p)
	})
	if _, _, e := Get(s, root, b("a")); e == api.OK {
		t.Error("Get")
	}
	if _, e := Pages(s, root); e == api.OK {
		t.Error("Pages")
	}
	if Check(s, root) == api.OK {
		t.Error("Check")
	}
}

// model is what a tree's entries are to be.
type model map[string]string

func (m model) keys() []string {
	out := make([]string, 0, len(m))
	for k := range m {
		out = append(out, k)
	}
	sort.Strings(out)
	return out
}

// same holds a tree against a model: entries, order, pages.
func same(t *testing.T, r atom.Reader, root int, m model) {
	t.Helper()
	if e := Check(r, root); e != api.OK {
		t.Fatal("Check", e)
	}
	keys, at := m.keys(), []byte(nil)
	for _, want := range keys {
		k, v, ok, e := Seek(r, root, at)
		if !ok || e != api.OK || string(k) != want || string(v) != m[want] {
			t.Fatalf("Seek %q: %q, want %q (%d)", at, k, want, e)
		}
		at = append(k, 0)
		if len(at) > 96 {
			at = at[:96]
			at[95]++
		}
	}
	if _, _, ok, e := Seek(r, root, at); ok && len(keys) > 0 || e != api.OK {
		t.Fatal("Seek behind the last one", e)
	}
	pages, e := Pages(r, root)
	if e != api.OK || len(pages) > 2*len(m)+1 || pages[0] != root {
		t.Fatalf("%d pages of %d entries (%d)", len(pages), len(m), e)
	}
	own, _ := space.Own(r)
	used, _ := space.Used(r)
	mine := slices.Clone(pages)
	for n := range own {
		mine = append(mine, n)
	}
	if slices.Sort(mine); !slices.Equal(mine, used) {
		t.Fatal("the tree's pages are not those in use")
	}
}

func someKey(s *sample.Source, long bool) string {
	k := fmt.Sprint(s.Below(150))
	if long {
		k = string(bytes.Repeat(b("k"), 85)) + k
	}
	if s.Below(4) == 0 {
		k += string(s.Bytes(1))
	}
	return k
}

// P11.5: a tree tells what a sorted list tells.
func TestAsList(t *testing.T) {
	for seed := range uint64(16) {
		src := sample.New(seed)
		s := store(t, 400)
		root := made(t, s)
		m := model{}
		for round := range 40 {
			shrink := round/8%2 == 1
			g, _ := s.Group()
			now := model{}
			for k, v := range m {
				now[k] = v
			}
			for range 25 {
				change(t, g, root, now, src, seed%2 == 0, shrink)
			}
			same(t, g, root, now)
			if src.Below(4) == 0 {
				g.Drop()
			} else {
				g.Done(api.Rec{Kind: 1})
				m = now
			}
			same(t, s, root, m)
		}
		within(t, s, func(g *atom.Group) {
			for _, k := range m.keys() {
				Take(g, root, b(k))
			}
			same(t, g, root, model{})
		})
		if p, _ := Pages(s, root); len(p) != 1 {
			t.Error("an empty tree has its root alone")
		}
	}
}

func change(t *testing.T, g *atom.Group, root int, m model, src *sample.Source, long, shrink bool) {
	t.Helper()
	k := someKey(src, long)
	want, there := m[k]
	if v, ok, e := Get(g, root, b(k)); ok != there || string(v) != want || e != api.OK {
		t.Fatal("Get", k, e)
	}
	last := ""
	for x := range m {
		if x < k && x > last {
			last = x
		}
	}
	if x, v, ok, e := Last(g, root, b(k)); e != api.OK || ok != (last != "") || string(x) != last || ok && string(v) != m[last] {
		t.Fatal("Last", k, string(x), last, e)
	}
	if src.Below(4) == 0 != shrink {
		old, had, e := Take(g, root, b(k))
		if had != there || string(old) != want || e != api.OK {
			t.Fatal("Take", k, e)
		}
		delete(m, k)
		return
	}
	v := src.Bytes(src.Below(1 + src.Below(129)))
	old, had, e := Put(g, root, b(k), v)
	if had != there || string(old) != want || e != api.OK {
		t.Fatal("Put", k, e)
	}
	m[k] = string(v)
}

func filled(t *testing.T, s *atom.Store, n, each int) (int, model) {
	t.Helper()
	root, m := made(t, s), model{}
	within(t, s, func(g *atom.Group) {
		for i := range n {
			k := fmt.Sprintf("%04d", i*7919%n)
			m[k] = string(make([]byte, each))
			if _, _, e := Put(g, root, b(k), b(m[k])); e != api.OK {
				t.Fatal(e)
			}
		}
	})
	return root, m
}

// P11.4: Join makes fewer pages, till there is nothing to join.
func TestJoin(t *testing.T) {
	s := store(t, 600)
	root, m := filled(t, s, 300, 60)
	within(t, s, func(g *atom.Group) {
		for i, k := range m.keys() {
			if i%2 == 1 {
				Take(g, root, b(k))
				delete(m, k)
			}
		}
	})
	joined := 0
	for {
		before, _ := Pages(s, root)
		more := false
		within(t, s, func(g *atom.Group) {
			var e api.Errno
			if more, e = Join(g, root); e != api.OK {
				t.Fatal(e)
			}
		})
		same(t, s, root, m)
		after, _ := Pages(s, root)
		if more != (len(after) < len(before)) {
			t.Fatal("Join tells", more, len(before), len(after))
		}
		if !more {
			break
		}
		joined++
	}
	if p, _ := Pages(s, root); joined == 0 || len(p) > 45 {
		t.Error("joined", joined, len(p))
	}
}

// P11.4: Move moves leaves to lower pages, till none lies above a free one.
func TestMove(t *testing.T) {
	s := store(t, 300)
	other, _ := filled(t, s, 200, 100)
	root := 0
	var m model
	root, m = filled(t, s, 100, 100)
	within(t, s, func(g *atom.Group) {
		if ok, e := Empty(g, other, 1<<30); !ok || e != api.OK {
			t.Fatal("Empty", e)
		}
		space.Free(g, other)
	})
	before, _ := Pages(s, root)
	moved := 0
	for more := true; more; moved++ {
		within(t, s, func(g *atom.Group) {
			var e api.Errno
			if more, e = Move(g, root); e != api.OK {
				t.Fatal(e)
			}
		})
		same(t, s, root, m)
	}
	after, _ := Pages(s, root)
	if len(after) != len(before) || moved < 20 {
		t.Error("Move", len(before), len(after), moved)
	}
	used, _ := space.Used(s)
	free := 0
	for free < len(used) && used[free] == free {
		free++
	}
	for _, n := range after[1:] {
		if x, _ := load(s, n); x.leaf && n > free {
			t.Error("a leaf lies above a free page", n, free)
		}
	}
}

// P11.3: Empty frees bit by bit.
func TestEmpty(t *testing.T) {
	s := store(t, 300)
	for _, most := range []int{1, 3, 8, 1000} {
		root, _ := filled(t, s, 250, 90)
		before, _ := Pages(s, root)
		if d, _ := Depth(s, root); d < 3 {
			t.Error("a tree that is too small to test by")
		}
		for done := false; !done; {
			left, _ := space.Left(s)
			within(t, s, func(g *atom.Group) {
				var e api.Errno
				if done, e = Empty(g, root, most); e != api.OK {
					t.Fatal(e)
				}
			})
			now, _ := space.Left(s)
			after, e := Pages(s, root)
			if e != api.OK || now-left > most || len(before)-len(after) != now-left {
				t.Fatal("freed", now-left, most, len(before), len(after), e)
			}
			if before = after; !done && now == left {
				t.Fatal("Empty stands still")
			}
		}
		same(t, s, root, model{})
		within(t, s, func(g *atom.Group) { space.Free(g, root) })
	}
}

// P11.3: Check tells of leaves that are not equally deep, and of keys that are not where the way leads.
func TestCheckShape(t *testing.T) {
	s := store(t, 400)
	root, _ := filled(t, s, 250, 90)
	x, _ := load(s, root)
	for i := range x.cells {
		below, e := load(s, x.child(i))
		if e != api.OK || below.leaf {
			t.Fatal("a tree that is too small to test by")
		}
		g, _ := s.Group()
		y := x
		y.cells = slices.Clone(x.cells)
		y.cells[i] = branch(below.child(0), x.key(i))
		y.save(g)
		if Check(g, root) != api.ErrForm {
			t.Error("a leaf that is not as deep, at", i)
		}
		g.Drop()
		if i == 0 {
			continue
		}
		g, _ = s.Group()
		y.cells[i] = branch(x.child(i), append(slices.Clone(x.key(i)), 'x'))
		y.save(g)
		if Check(g, root) != api.ErrForm {
			t.Error("keys below what leads to them, at", i)
		}
		g.Drop()
	}
}

// P11.3: Check tells of keys out of order.
func TestCheckTells(t *testing.T) {
	s := store(t, 300)
	root, _ := filled(t, s, 100, 90)
	if Check(s, root) != api.OK {
		t.Fatal("a good tree")
	}
	pages, _ := Pages(s, root)
	for _, n := range pages {
		x, _ := load(s, n)
		if len(x.cells) < 2 {
			continue
		}
		g, _ := s.Group()
		slices.Reverse(x.cells)
		x.save(g)
		if Check(g, root) != api.ErrForm {
			t.Error("keys out of order on page", n)
		}
		if !x.leaf {
			slices.Reverse(x.cells)
			x.cells[1] = branch(x.child(0), x.key(1))
			x.save(g)
			if Check(g, root) != api.ErrForm {
				t.Error("a page that is met twice below", n)
			}
		}
		g.Drop()
	}
}

// P11.5: rows of entries taken out one by one, from the left or from the right, out of trees whose pages lead to few others.
func TestRows(t *testing.T) {
	for seed := range uint64(24) {
		src := sample.New(seed)
		s := store(t, 900)
		root, m := made(t, s), model{}
		g, _ := s.Group()
		for range 4 {
			for range 120 {
				k := string(bytes.Repeat(b("k"), 92)) + fmt.Sprintf("%04d", src.Below(400))
				m[k] = string(src.Bytes(100))
				if _, _, e := Put(g, root, b(k), b(m[k])); e != api.OK {
					t.Fatal("Put", e)
				}
			}
			keys := m.keys()
			from := src.Below(len(keys))
			row := keys[from:min(len(keys), from+40+src.Below(60))]
			if seed%2 == 0 {
				slices.Reverse(row)
			}
			for _, k := range row {
				if old, had, e := Take(g, root, b(k)); !had || string(old) != m[k] || e != api.OK {
					t.Fatal("Take", e)
				}
				delete(m, k)
				if pages, e := Pages(g, root); Check(g, root) != api.OK || e != api.OK || len(pages) > 2*len(m)+1 {
					t.Fatal("Check", Check(g, root), len(pages), len(m))
				}
			}
			same(t, g, root, m)
		}
		g.Drop()
	}
}
