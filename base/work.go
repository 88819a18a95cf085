package base

import (
	"slices"

	"muniment/api"
	"muniment/atom"
	"muniment/chain"
	"muniment/space"
	"muniment/sum"
	"muniment/tree"
)

// op is a change of a transaction that may be undone, and what undoing it needs.
type op struct {
	seq     uint64
	pages   int   // of the chain that is written again
	puts    []int // the trees into which an entry is put
	touched []int // those of which one is changed, each as often
}

// work is what a transaction that is active did, and what undoing all of it needs.
type work struct {
	changed map[string]struct{} // collections, those too of which all was undone
	ops     []op
	pages   int         // of chains that are written again
	puts    map[int]int // how many entries are put into each tree
	trees   map[int]struct{}
	fattest int // pages of the longest of the chains
	widest  int // entries that one change touches at most
}

func newWork() *work {
	return &work{changed: map[string]struct{}{}, puts: map[int]int{}, trees: map[int]struct{}{}}
}

// add notes a change.
func (w *work) add(o op) {
	w.ops = append(w.ops, o)
	w.count(o, 1)
	for _, root := range o.touched {
		w.trees[root] = struct{}{}
	}
	w.fattest = max(w.fattest, o.pages)
	w.widest = max(w.widest, len(o.touched))
}

// count counts what undoing a change needs, or no longer.
func (w *work) count(o op, by int) {
	w.pages += by * o.pages
	for _, root := range o.puts {
		w.puts[root] += by
	}
}

// cut forgets the changes from a place on.
func (w *work) cut(at int) {
	for _, o := range w.ops[at:] {
		w.count(o, -1)
	}
	w.ops = w.ops[:at]
}

// busy tells whether an active transaction has changed a collection of that name.
func (b *Base) busy(name string) bool {
	for _, w := range b.works {
		if _, ok := w.changed[name]; ok {
			return true
		}
	}
	return false
}

// Busy tells whether an active transaction has changed the collection.
func (b *Base) Busy(name string) bool { return b != nil && b.busy(name) }

// opOf tells what undoing a change needs: the old document's bytes, and what changed of indexes.
func (b *Base) opOf(c *coll, old []byte, turns []turn) op {
	out := op{seq: b.ops + 1, touched: []int{c.root}}
	if len(old) > 0 {
		out.puts = append(out.puts, c.root)
	}
	if len(old) > inlineMost {
		out.pages = chain.Need(len(old))
	}
	for _, t := range turns {
		if t.old != nil {
			out.puts = append(out.puts, t.x.root)
			out.touched = append(out.touched, t.x.root)
		}
		if t.now != nil {
			out.touched = append(out.touched, t.x.root)
		}
	}
	return out
}

// needs is what undoing all that is active needs, as deep as the trees are by now.
type needs struct {
	g     *atom.Group
	deep  map[int]int // of the trees that were met
	pages int         // that must be free
	fat   int         // pages of the longest chain
	wide  int         // entries that one change touches at most
}

// depth tells how deep a tree is.
func (n *needs) depth(root int) (int, api.Errno) {
	if d := n.deep[root]; d > 0 {
		return d, api.OK
	}
	d, e := tree.Depth(n.g, root)
	n.deep[root] = d
	return d, e
}

// add counts what undoing a transaction needs. An entry that is put in needs at most a page for each level
// of its tree, and one more for a new root.
func (n *needs) add(w *work) api.Errno {
	n.pages += w.pages
	n.fat, n.wide = max(n.fat, w.fattest), max(n.wide, w.widest)
	for root := range w.trees {
		d, e := n.depth(root)
		if e != api.OK {
			return e
		}
		n.pages += w.puts[root] * (d + 1)
	}
	return api.OK
}

// heaviest tells how many pages undoing one change may write at most: a page of each level of a tree and one beside it,
// one more for a new root, a chain's, and those of marks.
func (n *needs) heaviest() int {
	deepest := 0
	for _, d := range n.deep {
		deepest = max(deepest, d)
	}
	// page 0 is written by none: the others of space's own are those of marks
	own, _ := space.Own(n.g)
	return own - 1 + n.fat + n.wide*(2*deepest+1)
}

// needed tells what undoing all that is active needs, and one change more.
func (b *Base) needed(g *atom.Group, more *op) (*needs, api.Errno) {
	n := &needs{g: g, deep: map[int]int{}}
	for _, w := range b.works {
		if e := n.add(w); e != api.OK {
			return nil, e
		}
	}
	if more == nil {
		return n, api.OK
	}
	w := newWork()
	w.add(*more)
	return n, n.add(w)
}

// spared tells ErrFull, if fewer pages were left than undoing needs: what is active, and one change more;
// so many were left ahead of what the group did.
func (b *Base) spared(n *needs, before int) api.Errno {
	left, e := space.Left(n.g)
	need := n.pages
	if left < before {
		need += b.slack()
	}
	if e == api.OK && left < need {
		e = api.ErrFull
	}
	return e
}

// slack tells how many pages stay free whatever needs pages, so that documents can be taken out of a base that is full.
func (b *Base) slack() int { return min(8, b.s.Disk().Pages()/8) }

// The kinds of undo data.
const (
	undoPut  = 1 // a document is put again
	undoTake = 2 // a document is taken out again
)

const seqSize = 8

// undoData tells how to undo a change: the collection, the key, the bytes of the document that was there.
func undoData(seq uint64, name string, k, old []byte) []byte {
	kind := byte(undoTake)
	if len(old) > 0 {
		kind = undoPut
	}
	out, _ := sum.Put(append([]byte{kind}, make([]byte, seqSize)...), 1, seqSize, seq)
	out = append(append(out, byte(len(name))), name...)
	out = append(append(out, byte(len(k))), k...)
	return append(out, old...)
}

// undoer knows what undo data mean.
type undoer struct{ b *Base }

// reader reads undo data.
type reader struct {
	b   *Base
	g   *atom.Group
	c   *coll
	k   []byte
	old []byte
}

// Undo does a change backward, as the documents are by now.
func (u undoer) Undo(g *atom.Group, data []byte) api.Errno {
	r := &reader{b: u.b, g: g}
	undo, ok := map[byte]func() api.Errno{undoPut: r.put, undoTake: r.take}[kindOf(data)]
	if !ok || !r.parts(data) {
		return api.ErrForm
	}
	if r.c == nil {
		return api.OK
	}
	if e := undo(); e != api.OK {
		return e
	}
	seq, _ := sum.Get(data, 1, seqSize)
	r.b.undone(seq)
	r.b.note(r.c.name, r.k)
	return api.OK
}

func kindOf(data []byte) byte {
	if len(data) == 0 {
		return 0
	}
	return data[0]
}

// parts cuts undo data into its parts.
func (r *reader) parts(data []byte) bool {
	rest := data[min(len(data), 1+seqSize):]
	name, rest, ok := part(rest)
	if !ok {
		return false
	}
	r.c, _ = r.b.find(string(name))
	r.k, r.old, ok = part(rest)
	return ok
}

// part cuts a number of bytes and they off.
func part(b []byte) (part, rest []byte, ok bool) {
	if len(b) < 1 || len(b) < 1+int(b[0]) {
		return nil, nil, false
	}
	n := 1 + int(b[0])
	return b[1:n:n], b[n:], true
}

// put puts the old document in again.
func (r *reader) put() api.Errno {
	old, e := doc(r.g, append([]byte{inEntry}, r.old...))
	if e != api.OK {
		return e
	}
	return r.change(old, r.old)
}

// take takes the document out again.
func (r *reader) take() api.Errno { return r.change(api.Val{}, nil) }

// change makes the document what it was. A chain that it has no longer is freed at once: a grave might need pages.
func (r *reader) change(to api.Val, b []byte) api.Errno {
	now, _, _, e := r.c.read(r.g, r.k)
	if e != api.OK {
		return e
	}
	_, e = r.c.apply(r.g, r.k, now, to, b, chain.Free)
	return e
}

// undone forgets a change, and those behind it of the same transaction.
func (b *Base) undone(seq uint64) {
	for _, w := range b.works {
		at := slices.IndexFunc(w.ops, func(o op) bool { return o.seq == seq })
		if at >= 0 {
			w.cut(at)
		}
	}
}

// note notes a key, if the collection's changes are noted.
func (b *Base) note(name string, k []byte) {
	if n, ok := b.notes[name]; ok {
		n.keys[string(k)] = struct{}{}
	}
}
