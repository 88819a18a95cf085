package base

import (
	"bytes"
	"fmt"
	"slices"
	"strings"
	"testing"

	"muniment/api"
	"muniment/chain"
	"muniment/disk"
	"muniment/key"
	"muniment/lit"
	"muniment/plain"
	"muniment/sample"
	"muniment/space"
	"muniment/tree"
	"muniment/val"
)

func device(t *testing.T, pages, log int) *disk.Disk {
	t.Helper()
	d, e := disk.New(pages, log)
	if e != api.OK {
		t.Fatal(e)
	}
	return d
}

func opened(t *testing.T, d *disk.Disk, frames int) *Base {
	t.Helper()
	b, e := Open(d, frames)
	if e != api.OK {
		t.Fatal("Open", e)
	}
	return b
}

func parse(t *testing.T, s string) api.Val {
	t.Helper()
	v, e := lit.Parse(s)
	if e != api.OK {
		t.Fatal("no value", s)
	}
	return v
}

// told tells a state as a text.
func told(s plain.State) string {
	var out []string
	for _, c := range s.Colls {
		line := c.Name
		for _, d := range c.Docs {
			text, _ := lit.Text(d)
			line += " " + text
		}
		for _, x := range c.Indexes {
			line += fmt.Sprint(" ", x)
		}
		out = append(out, line)
	}
	return strings.Join(out, "; ")
}

func state(t *testing.T, b *Base) string {
	t.Helper()
	s, e := b.State()
	if e != api.OK {
		t.Fatal("State", e)
	}
	return told(s)
}

// one does a request in a transaction of its own.
func one(t *testing.T, b *Base, r api.Request) api.Reply {
	t.Helper()
	id, _ := b.Begin()
	out := b.Do(id, r)
	if e := b.Commit(id); e != api.OK {
		t.Fatal("Commit", e)
	}
	return out
}

func must(t *testing.T, b *Base, r api.Request) {
	t.Helper()
	if out := one(t, b, r); out.E != api.OK {
		t.Fatal("request", r.Do, "refused", out.E)
	}
}

// The chapter's examples.
func TestExamples(t *testing.T) {
	b := opened(t, device(t, 64, 65536), 32)
	id, _ := b.Begin()
	if r := b.Do(id, api.Request{Do: plain.Make, Coll: "a"}); id != 1 || r.E != api.OK || b.Commit(1) != api.OK {
		t.Error("Make", r.E)
	}
	id, _ = b.Begin()
	if r := b.Do(id, api.Request{Do: plain.Put, Coll: "a", Doc: parse(t, `{"_id": 1}`)}); id != 2 || r.E != api.OK || r.N != 0 || state(t, b) != `a {"_id": 1}` {
		t.Error("Put", r.E, state(t, b))
	}
	if r := b.Do(2, api.Request{Do: plain.Drop, Coll: "a"}); r.E != api.ErrState {
		t.Error("Drop", r.E)
	}
	if b.Abort(2) != api.OK || state(t, b) != "a" || b.Do(2, api.Request{Do: plain.Get, Coll: "a", Key: parse(t, "1")}).E != api.ErrTx {
		t.Error("Abort", state(t, b))
	}
}

// P16.1: Open's errors.
func TestOpen(t *testing.T) {
	for i, c := range []struct {
		pages, frames int
		e             api.Errno
	}{{64, 0, 1}, {64, 1025, 1}, {64, 23, 1}, {15, 23, 1}, {15, 24, 7}, {16, 24, 0}, {64, 1024, 0}} {
		b, e := Open(device(t, c.pages, 1<<16), c.frames)
		if e != c.e || (b == nil) != (e != 0) {
			t.Error("case", i, e)
		}
	}
	d := device(t, 64, 1<<16)
	d.Fuse(0)
	if _, e := Open(d, 24); e != api.ErrDead {
		t.Error("a dead device", e)
	}
	if _, e := Open(d, 10); e != api.ErrDead {
		t.Error("errors of what lies below come ahead", e)
	}
	var none *Base
	if none.Do(1, api.Request{}).E != api.ErrTx || none.Commit(1) == api.OK || none.Checkpoint() == api.OK || none.Store() != nil {
		t.Error("no base")
	}
	none.State()
	none.Dig()
	none.Trees()
	none.Raise()
	none.Next("a", "", nil)
}

// request tells a request that may be refused or not.
func request(src *sample.Source, coll string) api.Request {
	r := api.Request{Do: plain.Put + src.Below(3), Coll: coll, Index: string(rune('i' + src.Below(3))), Path: string(rune('x' + src.Below(2))), Unique: src.Below(3) == 0, N: 1 + src.Below(5)}
	id := api.Val{Kind: api.Int, N: uint64(src.Below(12))}
	if src.Below(6) == 0 {
		id = api.Val{Kind: api.Text, B: bytes.Repeat([]byte("k"), src.Below(100))}
	}
	r.Key = id
	r.Doc = api.Val{Kind: api.Doc, F: []api.Field{{Name: "_id", V: id}}}
	if src.Below(3) > 0 {
		r.Doc.F = append(r.Doc.F, api.Field{Name: "x", V: api.Val{Kind: api.Int, N: uint64(src.Below(30))}})
	}
	if src.Below(3) > 0 {
		r.Doc.F = append(r.Doc.F, api.Field{Name: "y", V: src.Value(1)})
	}
	if src.Below(4) == 0 {
		r.Doc.F = append(r.Doc.F, api.Field{Name: "fat", V: api.Val{Kind: api.Bytes, B: src.Bytes(src.Below(3000))}})
	}
	switch src.Below(10) {
	case 0:
		r.Do = plain.Find
		r.Low, r.High = src.Value(0), src.Value(0)
		if src.Below(2) == 0 {
			r.Low, r.Index = api.Val{}, ""
		}
	case 1:
		r.Do = plain.Get
	case 2:
		r.Do = plain.Count
	}
	return r
}

func sameReply(a, b api.Reply) bool { return fmt.Sprint(a) == fmt.Sprint(b) }

// run is a base, and what plain says of it: committed, and of each transaction that is active its collection's part.
type run struct {
	b       *Base
	d       *disk.Disk
	src     *sample.Source
	sure    plain.State
	maybe   []plain.State // what else may be left, if the device died
	mine    map[string]plain.State
	ids     map[string]uint64
	marks   map[string]uint64
	at      map[string]plain.State
	t       *testing.T
	refused int
}

func newRun(t *testing.T, d *disk.Disk, seed uint64) *run {
	r := &run{d: d, src: sample.New(seed), t: t, mine: map[string]plain.State{}, ids: map[string]uint64{}, marks: map[string]uint64{}, at: map[string]plain.State{}}
	r.b, _ = Open(d, 24+8*int(seed%3))
	for _, name := range []string{"a", "b"} {
		r.lasting(api.Request{Do: plain.Make, Coll: name})
		r.lasting(api.Request{Do: plain.Index, Coll: name, Index: "i", Path: "x", Unique: true})
		r.lasting(api.Request{Do: plain.Index, Coll: name, Index: "j", Path: "y"})
	}
	return r
}

// merged tells the committed state with one collection's part in place of its own.
func merged(s plain.State, name string, part plain.State) plain.State {
	out := plain.State{}
	for _, c := range s.Colls {
		if c.Name != name {
			out.Colls = append(out.Colls, c)
		}
	}
	for _, c := range part.Colls {
		if c.Name == name {
			out.Colls = append(out.Colls, c)
		}
	}
	slices.SortFunc(out.Colls, func(a, b plain.Coll) int { return strings.Compare(a.Name, b.Name) })
	return out
}

// now tells the state of the base: committed or not.
func (r *run) now() plain.State {
	out := r.sure
	for name, part := range r.mine {
		out = merged(out, name, part)
	}
	return out
}

func (r *run) step() {
	names := []string{"a", "b", "c"}
	name := names[r.src.Below(3)]
	id, open := r.ids[name]
	switch k := r.src.Below(20); {
	case k == 0:
		r.b.Checkpoint()
	case k == 1:
		r.b.Clean()
	case k == 2:
		r.b.s.Pool().WriteAll()
	case k == 3:
		r.b.Dig()
	case !open && k < 6:
		q := request(r.src, name)
		q.Do = []int{plain.Make, plain.Make, plain.Index, plain.Index, plain.Unindex, plain.Drop}[r.src.Below(6)]
		r.lasting(q)
	case !open:
		if id, e := r.b.Begin(); e == api.OK {
			r.ids[name], r.mine[name] = id, r.sure
		}
	case k < 6:
		r.end(name, id, k == 4)
	case k == 6:
		r.marks[name], _ = r.b.Mark(id)
		r.at[name] = r.mine[name]
	case k == 7 && r.at[name].Colls != nil:
		if e := r.b.Back(id, r.marks[name]); e == api.OK {
			r.mine[name] = r.at[name]
		} else if e != api.ErrDead {
			r.t.Fatal("Back", e)
		}
	default:
		r.change(name, id)
	}
}

func (r *run) lasting(q api.Request) {
	if r.d.Dead() || r.b == nil {
		return
	}
	id, _ := r.b.Begin()
	got := r.b.Do(id, q)
	next, want := plain.Do(r.sure, q)
	if got.E == api.ErrDead {
		r.maybe = []plain.State{next}
		return
	}
	if got.E == api.ErrFull {
		r.refused++
	} else if !sameReply(got, want) {
		r.t.Fatalf("request %d: %v, want %v", q.Do, got, want)
	} else {
		r.sure = next
	}
	if e := r.b.Abort(id); e != api.OK && e != api.ErrDead {
		r.t.Fatal("Abort", e)
	}
}

func (r *run) end(name string, id uint64, commit bool) {
	next := merged(r.sure, name, r.mine[name])
	if commit {
		e := r.b.Commit(id)
		if e == api.OK {
			r.sure = next
		} else if e == api.ErrDead {
			r.maybe = []plain.State{next}
		} else {
			r.t.Fatal("Commit", e)
		}
	} else if e := r.b.Abort(id); e != api.OK && e != api.ErrDead {
		r.t.Fatal("Abort", e)
	}
	delete(r.ids, name)
	delete(r.mine, name)
	delete(r.at, name)
}

func (r *run) change(name string, id uint64) {
	q := request(r.src, name)
	got := r.b.Do(id, q)
	next, want := plain.Do(r.mine[name], q)
	switch {
	case got.E == api.ErrDead:
	case got.E == api.ErrFull:
		r.refused++
	case !sameReply(got, want):
		r.t.Fatalf("request %d: %v, want %v", q.Do, got, want)
	default:
		r.mine[name] = next
	}
	if r.src.Below(9) == 0 && !r.d.Dead() && r.b.Busy(name) {
		if got := r.b.Do(id, api.Request{Do: plain.Drop, Coll: name}); got.E != api.ErrState {
			r.t.Fatal("Drop of what was changed", got.E)
		}
	}
}

// exact tells whether trees, indexes and pages are as the state says.
func exact(t *testing.T, b *Base) {
	t.Helper()
	s, e := b.State()
	if e != api.OK {
		t.Fatal("State", e)
	}
	pages := 0
	own, _ := space.Own(b.s)
	roots, _ := b.Trees()
	graves, _ := b.Graves()
	for _, root := range append(append(roots, graves...), b.catalogue) {
		p, _ := tree.Pages(b.s, root)
		pages += len(p)
		chains, e := b.Chains(root)
		if e != api.OK {
			t.Fatal("Chains", e)
		}
		for _, first := range chains {
			pages += chainPages(t, b, first)
		}
	}
	if used, _ := space.Used(b.s); len(used) != pages+own {
		t.Fatal("pages in use", len(used), "reached", pages+own)
	}
	for _, c := range s.Colls {
		for _, x := range c.Indexes {
			want, _ := plain.Entries(c, x)
			got, e := b.Entries(c.Name, x.Name)
			if e != api.OK || !slices.EqualFunc(got, want, bytes.Equal) {
				t.Fatal("entries of", c.Name, x.Name, e)
			}
		}
	}
}

// P16.2, P16.3, P16.5: the state is what plain says, whoever is active, whatever is undone.
func TestAsPlain(t *testing.T) {
	for seed := range uint64(12) {
		d := device(t, 400, 1<<17)
		r := newRun(t, d, seed)
		for i := range 500 {
			r.step()
			if i%10 == 0 {
				if got, want := state(t, r.b), told(r.now()); got != want {
					t.Fatalf("seed %d step %d: %s, want %s", seed, i, got, want)
				}
				exact(t, r.b)
			}
		}
		if r.refused > 0 {
			t.Error("ErrFull", r.refused)
		}
	}
}

// P16.5 and T2: crashes at whatever operation.
func TestCrashes(t *testing.T) {
	for seed := range uint64(14) {
		for fuse := int(seed % 3); ; fuse += 3 {
			d := device(t, 34+int(seed%4)*30, 5000+int(seed%5)*6000)
			d.Fuse(fuse)
			r := newRun(t, d, seed)
			for i := 0; i < 110 && !d.Dead() && r.b != nil; i++ {
				r.step()
			}
			src := sample.New(uint64(fuse))
			choice := src.Bytes(60)
			left := check(t, r, d.Crash(choice))
			c := d.Crash(choice)
			for range src.Below(9) {
				c.Fuse(src.Below(14))
				Open(c, 24)
				c = c.Crash(src.Bytes(40))
			}
			if again := check(t, r, c); again != left {
				t.Fatal("crashes while it is opened tell another state")
			}
			if !d.Dead() {
				break
			}
		}
	}
}

func check(t *testing.T, r *run, d *disk.Disk) string {
	t.Helper()
	b := opened(t, d, 24)
	got := state(t, b)
	ok := got == told(r.sure)
	for _, s := range r.maybe {
		ok = ok || got == told(s)
	}
	if !ok {
		t.Fatalf("left is %s\nwant %s\nor %d others", got, told(r.sure), len(r.maybe))
	}
	exact(t, b)
	if twice := state(t, opened(t, d.Crash(nil), 24)); twice != got {
		t.Fatal("opened once more it is another state")
	}
	return got
}

// P16.2: Do's own errors.
func TestDo(t *testing.T) {
	b := opened(t, device(t, 64, 65536), 24)
	id, _ := b.Begin()
	if b.Do(id, api.Request{Do: 99}).E != api.ErrArg || b.Do(id+1, api.Request{Do: 99}).E != api.ErrTx || b.Do(id, api.Request{Do: plain.Drop, Coll: "z"}).E != api.ErrName {
		t.Error("errors")
	}
	b.Do(id, api.Request{Do: plain.Make, Coll: "a"})
	mark, _ := b.Mark(id)
	b.Do(id, api.Request{Do: plain.Put, Coll: "a", Doc: parse(t, `{"_id": 1}`)})
	b.Back(id, mark)
	for _, do := range []int{plain.Make, plain.Drop, plain.Index, plain.Unindex} {
		other, _ := b.Begin()
		if b.Do(id, api.Request{Do: do, Coll: "a"}).E != api.ErrState || b.Do(other, api.Request{Do: do, Coll: "a"}).E != api.ErrState {
			t.Error("done for good while it is changed", do)
		}
		b.Abort(other)
	}
	b.Commit(id)
	if one(t, b, api.Request{Do: plain.Drop, Coll: "a"}).E != api.OK {
		t.Error("Drop")
	}
}

func TestMemory(t *testing.T) {
	b := opened(t, device(t, 64, 65536), 24)
	must(t, b, api.Request{Do: plain.Make, Coll: "a"})
	d := parse(t, `{"_id": 1, "b": x"0102"}`)
	must(t, b, api.Request{Do: plain.Put, Coll: "a", Doc: d})
	d.F[1].V.B[0] = 9
	got := one(t, b, api.Request{Do: plain.Get, Coll: "a", Key: parse(t, "1")})
	got.Docs[0].F[1].V.B[0] = 9
	if state(t, b) != `a {"_id": 1, "b": x"0102"}` {
		t.Error("R4", state(t, b))
	}
}

// Words: documents of more than 100 bytes stand each in a chain of its own.
func TestChains(t *testing.T) {
	b := opened(t, device(t, 64, 65536), 24)
	must(t, b, api.Request{Do: plain.Make, Coll: "a"})
	for i, size := range []int{99, 100, 101, 500, 4096} {
		d := api.Val{Kind: api.Doc, F: []api.Field{{Name: "_id", V: api.Val{Kind: api.Int, N: uint64(i)}}, {Name: "f", V: api.Val{Kind: api.Bytes}}}}
		n, _ := val.Size(d)
		d.F[1].V.B = make([]byte, size-n)
		must(t, b, api.Request{Do: plain.Put, Coll: "a", Doc: d})
		root, _ := b.Root("a", "")
		chains, e := b.Chains(root)
		if e != api.OK || len(chains) != max(0, i-1) {
			t.Error("chains with a document of", size, chains, e)
		}
		if want, _ := val.Put(d); i > 1 {
			if got, e := chain.Read(b.s, chains[len(chains)-1]); e != api.OK || !bytes.Equal(got, want) {
				t.Error("a chain holds just the document's bytes", e)
			}
		}
	}
}

// P16.2: bounds whose keys would be too long are bounds all the same.
func TestLongBounds(t *testing.T) {
	b := opened(t, device(t, 64, 65536), 24)
	must(t, b, api.Request{Do: plain.Make, Coll: "a"})
	must(t, b, api.Request{Do: plain.Index, Coll: "a", Index: "i", Path: "x"})
	for _, s := range []string{"a", "m", "z"} {
		must(t, b, api.Request{Do: plain.Put, Coll: "a", Doc: parse(t, `{"_id": "`+s+`", "x": "`+s+`"}`)})
	}
	long := parse(t, `"`+strings.Repeat("m", 200)+`"`)
	for _, of := range []string{"", "i"} {
		low := one(t, b, api.Request{Do: plain.Find, Coll: "a", Index: of, N: 9, Low: long})
		high := one(t, b, api.Request{Do: plain.Find, Coll: "a", Index: of, N: 9, High: long})
		if low.N != 1 || string(low.Docs[0].F[0].V.B) != "z" || high.N != 2 || string(high.Docs[1].F[0].V.B) != "m" {
			t.Error("Find", of, low, high)
		}
	}
}

// P16.3: Entries and Next.
func TestNext(t *testing.T) {
	b := opened(t, device(t, 128, 1<<17), 24)
	must(t, b, api.Request{Do: plain.Make, Coll: "a"})
	must(t, b, api.Request{Do: plain.Index, Coll: "a", Index: "i", Path: "x"})
	long := strings.Repeat("\xff", 0) + strings.Repeat("z", 93)
	for _, s := range []string{`{"_id": 2, "x": 1}`, `{"_id": 1, "x": 2}`, `{"_id": 3}`, `{"_id": "` + long + `"}`, `{"_id": "` + long[:92] + `{"}`} {
		must(t, b, api.Request{Do: plain.Put, Coll: "a", Doc: parse(t, s)})
	}
	for _, of := range []string{"", "i"} {
		all, e := b.Entries("a", of)
		if e != api.OK || !slices.IsSortedFunc(all, bytes.Compare) {
			t.Error("Entries", e)
		}
		var after []byte
		for _, want := range all {
			k, d, ok, e := b.Next("a", of, after)
			if !ok || e != api.OK || !bytes.Equal(k, want) || d.Kind != api.Doc {
				t.Error("Next", k, want, e)
			}
			after = k
		}
		for _, last := range [][]byte{after, bytes.Repeat([]byte{255}, 96), bytes.Repeat([]byte{255}, 500)} {
			if k, d, ok, e := b.Next("a", of, last); k != nil || d.Kind != 0 || ok || e != api.OK {
				t.Error("Next behind the last one")
			}
		}
	}
	k96, _ := key.Of(parse(t, `"`+long+`"`))
	if k, _, ok, _ := b.Next("a", "", append(slices.Clone(k96[:94]), 255, 255, 255)); !ok || bytes.Equal(k, k96) {
		t.Error("Next above what is longer than keys")
	}
	spare := append(make([]byte, 0, 9), 1, 2)
	b.Next("a", "", spare[:1])
	if spare[1] != 2 {
		t.Error("R4: Next writes into what it is handed")
	}
	for _, c := range [][2]string{{"b", ""}, {"a", "j"}} {
		_, e1 := b.Entries(c[0], c[1])
		_, _, _, e2 := b.Next(c[0], c[1], nil)
		if e1 != api.ErrName || e2 != api.ErrName {
			t.Error("names", e1, e2)
		}
	}
}

// P16.4: notes.
func TestNotes(t *testing.T) {
	b := opened(t, device(t, 64, 65536), 24)
	must(t, b, api.Request{Do: plain.Make, Coll: "a"})
	if _, e := b.Noted("a"); e != api.ErrState {
		t.Error("not noted", e)
	}
	if _, e := b.Noted("b"); e != api.ErrName || b.Note("b", true) != api.ErrName {
		t.Error("no collection")
	}
	put := func(n string) { must(t, b, api.Request{Do: plain.Put, Coll: "a", Doc: parse(t, `{"_id": `+n+`}`)}) }
	put("1")
	b.Note("a", true)
	put("3")
	put("2")
	put("3")
	see := func(want ...string) {
		t.Helper()
		var keys [][]byte
		for _, n := range want {
			k, _ := key.Of(parse(t, n))
			keys = append(keys, k)
		}
		if got, e := b.Noted("a"); e != api.OK || !slices.EqualFunc(got, keys, bytes.Equal) {
			t.Error("Noted", got, e)
		}
	}
	see("2", "3")
	see()
	id, _ := b.Begin()
	b.Do(id, api.Request{Do: plain.Take, Coll: "a", Key: parse(t, "1")})
	see("1")
	b.Abort(id)
	see("1")
	one(t, b, api.Request{Do: plain.Add, Coll: "a", Doc: parse(t, `{"_id": 1}`)})
	see()
	put("7")
	b.Note("a", true)
	see()
	b.Note("a", false)
	if _, e := b.Noted("a"); e != api.ErrState {
		t.Error("noted no longer", e)
	}
}

// P16.4: trees of no collection.
func TestLoose(t *testing.T) {
	d := device(t, 64, 65536)
	b := opened(t, d, 24)
	fresh, _ := space.Used(b.s)
	must(t, b, api.Request{Do: plain.Make, Coll: "a"})
	x, e := b.Raise()
	y, _ := b.Raise()
	if e != api.OK || x == y {
		t.Error("Raise", x, y, e)
	}
	for _, c := range []struct {
		tree  int
		entry []byte
	}{{0, []byte{1}}, {x + 40, []byte{1}}, {x, nil}, {x, make([]byte, 97)}} {
		if had, e := b.Enter(c.tree, c.entry, true); had || e != api.ErrArg {
			t.Error("Enter", c.tree, e)
		}
	}
	for _, on := range []bool{true, false} {
		if had, e := b.Enter(x, make([]byte, 96), on); had == on || e != api.OK {
			t.Error("Enter of 96 bytes", had, e)
		}
	}
	for i, want := range []bool{false, true, true, false} {
		if had, e := b.Enter(x, []byte{7}, i < 2); had != want || e != api.OK {
			t.Error("Enter", i, had, e)
		}
	}
	def := plain.IndexDef{Name: "i", Path: strings.Repeat("p.", 100)}
	for _, c := range []struct {
		coll string
		x    plain.IndexDef
		tree int
		e    api.Errno
	}{{"z", plain.IndexDef{}, 0, 1}, {"z", plain.IndexDef{}, x, 4}, {"z", plain.IndexDef{Name: "i", Path: def.Path + "x"}, x, 2}, {"z", def, x, 5}, {"a", def, x, 0}, {"a", def, x, 1}, {"a", def, y, 6}} {
		if e := b.Adopt(c.coll, c.x, c.tree); e != c.e {
			t.Error("Adopt", c, e)
		}
	}
	if b.Bury(x) != api.ErrArg || b.Bury(y) != api.OK || b.Bury(y) != api.ErrArg {
		t.Error("Bury")
	}
	if had, e := b.Enter(y, []byte{1}, true); had || e != api.ErrArg {
		t.Error("Enter into a grave", e)
	}
	z, _ := b.Raise()
	root, _ := b.Root("a", "")
	roots, _ := b.Trees()
	graves, _ := b.Graves()
	want := []int{root, x, z}
	if slices.Sort(want); !slices.Equal(roots, want) || !slices.Equal(graves, []int{y}) {
		t.Error("Trees, Graves", roots, graves)
	}
	b.Store().Force(b.Store().Log().End())
	b = opened(t, d.Crash(nil), 24)
	if s, _ := b.State(); len(s.Colls) != 1 || len(s.Colls[0].Indexes) != 1 || s.Colls[0].Indexes[0] != def {
		t.Error("an index that was adopted is certain", told(s))
	}
	if graves, _ := b.Graves(); !slices.Contains(graves, z) || len(graves) != 2 {
		t.Error("what was raised is a grave", graves)
	}
	must(t, b, api.Request{Do: plain.Drop, Coll: "a"})
	for more := true; more; {
		more, _ = b.Dig()
	}
	if used, _ := space.Used(b.s); len(used) != len(fresh) {
		t.Error("pages are not given back", used)
	}
}

// P16.4: Dig frees at most 8 pages, documents' chains too.
func TestDig(t *testing.T) {
	b := opened(t, device(t, 600, 1<<18), 24)
	fresh, _ := space.Used(b.s)
	must(t, b, api.Request{Do: plain.Make, Coll: "a"})
	must(t, b, api.Request{Do: plain.Index, Coll: "a", Index: "i", Path: "_id"})
	src := sample.New(1)
	for i := range 60 {
		fat := api.Field{Name: "f", V: api.Val{Kind: api.Bytes, B: src.Bytes(i * 60)}}
		must(t, b, api.Request{Do: plain.Put, Coll: "a", Doc: api.Val{Kind: api.Doc, F: []api.Field{{Name: "_id", V: api.Val{Kind: api.Int, N: uint64(i)}}, fat}}})
	}
	exact(t, b)
	must(t, b, api.Request{Do: plain.Drop, Coll: "a"})
	if graves, _ := b.Graves(); len(graves) != 2 {
		t.Error("graves", graves)
	}
	steps := 0
	for more := true; more; steps++ {
		before, _ := space.Left(b.s)
		var e api.Errno
		if more, e = b.Dig(); e != api.OK {
			t.Fatal("Dig", e)
		}
		now, _ := space.Left(b.s)
		if now-before > 8 || steps > 500 {
			t.Fatal("Dig freed", now-before)
		}
		exact(t, b)
		if steps == 20 {
			b.Store().Force(b.Store().Log().End())
			b = opened(t, b.Store().Disk().Crash(nil), 24)
		}
	}
	if used, _ := space.Used(b.s); len(used) != len(fresh) || steps < 10 {
		t.Error("pages are not given back", len(used), steps)
	}
	if more, e := b.Dig(); more || e != api.OK {
		t.Error("Dig of none", e)
	}
}

// P16.3: Checkpoint and Clean.
func TestCheckpoint(t *testing.T) {
	d := device(t, 64, 1<<14)
	b := opened(t, d, 24)
	g, _ := b.Store().Group()
	if b.Checkpoint() != api.ErrState || b.Clean() != api.ErrState {
		t.Error("something is open")
	}
	g.Drop()
	if b.Checkpoint() != api.OK || b.Clean() != api.OK {
		t.Error("Checkpoint, Clean")
	}
	must(t, b, api.Request{Do: plain.Make, Coll: "a"})
	for i := range 300 {
		must(t, b, api.Request{Do: plain.Put, Coll: "a", Doc: api.Val{Kind: api.Doc, F: []api.Field{{Name: "_id", V: api.Val{Kind: api.Int, N: uint64(i % 7)}}}}})
		if i%10 == 0 {
			if e := b.Checkpoint(); e != api.OK {
				t.Fatal("Checkpoint", e)
			}
		}
	}
	for range 2000 {
		if e := b.Checkpoint(); e != api.OK {
			t.Fatal("many checkpoints", e)
		}
	}
}

func chainPages(t *testing.T, b *Base, first int) int {
	t.Helper()
	p, e := chain.Pages(b.s, first)
	if e != api.OK {
		t.Fatal("a chain", e)
	}
	return len(p)
}
