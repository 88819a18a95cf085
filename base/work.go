package base

import (
	"slices"

	"muniment/api"
	"muniment/atom"
	"muniment/chain"
	"muniment/space"
	"muniment/sum"
	"muniment/tree"
)

// op is a change of a transaction that may be undone, and what undoing it needs.
type op struct {
	seq   uint64
	pages int   // of the chain that is written again
	trees []int // into which an entry is put
}

// work is what a transaction that is active did.
type work struct {
	changed map[string]struct{} // collections, those too of which all was undone
	ops     []op
}

func newWork() *work { return &work{changed: map[string]struct{}{}} }

// busy tells whether an active transaction has changed a collection of that name.
func (b *Base) busy(name string) bool {
	for _, w := range b.works {
		if _, ok := w.changed[name]; ok {
			return true
		}
	}
	return false
}

// Busy tells whether an active transaction has changed the collection.
func (b *Base) Busy(name string) bool { return b != nil && b.busy(name) }

// opOf tells what undoing a change needs: the old document's bytes, and what changed of indexes.
func (b *Base) opOf(c *coll, old []byte, turns []turn) op {
	out := op{seq: b.ops + 1}
	if len(old) > 0 {
		out.trees = append(out.trees, c.root)
	}
	if len(old) > inlineMost {
		out.pages = chain.Need(len(old))
	}
	for _, t := range turns {
		if t.old != nil {
			out.trees = append(out.trees, t.x.root)
		}
	}
	return out
}

// spared tells ErrFull, if fewer pages were left than undoing needs: what is active, and one change more.
// An entry that is put in needs at most a page for each level of its tree, and one more for a new root.
func (b *Base) spared(g *atom.Group, more *op) api.Errno {
	deep := map[int]int{}
	need := 0
	count := func(o op) api.Errno {
		need += o.pages
		for _, root := range o.trees {
			if deep[root] == 0 {
				n, e := tree.Depth(g, root)
				if e != api.OK {
					return e
				}
				deep[root] = n
			}
			need += deep[root] + 1
		}
		return api.OK
	}
	for _, w := range b.works {
		for _, o := range w.ops {
			if e := count(o); e != api.OK {
				return e
			}
		}
	}
	if more != nil {
		if e := count(*more); e != api.OK {
			return e
		}
	}
	left, e := space.Left(g)
	if e != api.OK {
		return e
	}
	before, e := space.Left(b.s)
	if e == api.OK && left < before {
		need += b.slack()
	}
	if e == api.OK && left < need {
		e = api.ErrFull
	}
	return e
}

// slack tells how many pages stay free whatever needs pages, so that documents can be taken out of a base that is full.
func (b *Base) slack() int { return min(8, b.s.Disk().Pages()/8) }

// weight tells how many pages undoing a change may write at most: on the ways into the trees, those beside them,
// the chain's, and those of marks.
func (b *Base) weight(g *atom.Group, c *coll, o op, turns []turn) (int, api.Errno) {
	n, e := tree.Depth(g, c.root)
	if e != api.OK {
		return 0, e
	}
	pages := 4 + o.pages + 2*n + 4
	for _, t := range turns {
		n, e := tree.Depth(g, t.x.root)
		if e != api.OK {
			return 0, e
		}
		pages += 2 * (2*n + 4)
	}
	return pages, api.OK
}

// The kinds of undo data.
const (
	undoPut  = 1 // a document is put again
	undoTake = 2 // a document is taken out again
)

const seqSize = 8

// undoData tells how to undo a change: the collection, the key, the bytes of the document that was there.
func undoData(seq uint64, name string, k, old []byte) []byte {
	kind := byte(undoTake)
	if len(old) > 0 {
		kind = undoPut
	}
	out, _ := sum.Put(append([]byte{kind}, make([]byte, seqSize)...), 1, seqSize, seq)
	out = append(append(out, byte(len(name))), name...)
	out = append(append(out, byte(len(k))), k...)
	return append(out, old...)
}

// undoer knows what undo data mean.
type undoer struct{ b *Base }

// reader reads undo data.
type reader struct {
	b   *Base
	g   *atom.Group
	c   *coll
	k   []byte
	old []byte
}

// Undo does a change backward, as the documents are by now.
func (u undoer) Undo(g *atom.Group, data []byte) api.Errno {
	r := &reader{b: u.b, g: g}
	undo, ok := map[byte]func() api.Errno{undoPut: r.put, undoTake: r.take}[kindOf(data)]
	if !ok || !r.parts(data) {
		return api.ErrForm
	}
	if r.c == nil {
		return api.OK
	}
	if e := undo(); e != api.OK {
		return e
	}
	seq, _ := sum.Get(data, 1, seqSize)
	r.b.undone(seq)
	r.b.note(r.c.name, r.k)
	return api.OK
}

func kindOf(data []byte) byte {
	if len(data) == 0 {
		return 0
	}
	return data[0]
}

// parts cuts undo data into its parts.
func (r *reader) parts(data []byte) bool {
	rest := data[min(len(data), 1+seqSize):]
	name, rest, ok := part(rest)
	if !ok {
		return false
	}
	r.c, _ = r.b.find(string(name))
	r.k, r.old, ok = part(rest)
	return ok
}

// part cuts a number of bytes and they off.
func part(b []byte) (part, rest []byte, ok bool) {
	if len(b) < 1 || len(b) < 1+int(b[0]) {
		return nil, nil, false
	}
	n := 1 + int(b[0])
	return b[1:n:n], b[n:], true
}

// put puts the old document in again.
func (r *reader) put() api.Errno {
	old, e := doc(r.g, append([]byte{inEntry}, r.old...))
	if e != api.OK {
		return e
	}
	return r.change(old, r.old)
}

// take takes the document out again.
func (r *reader) take() api.Errno { return r.change(api.Val{}, nil) }

// change makes the document what it was.
func (r *reader) change(to api.Val, b []byte) api.Errno {
	now, _, _, e := r.c.read(r.g, r.k)
	if e != api.OK {
		return e
	}
	_, e = r.c.apply(r.g, r.k, now, to, b)
	return e
}

// undone forgets a change, and those behind it of the same transaction.
func (b *Base) undone(seq uint64) {
	for _, w := range b.works {
		at := slices.IndexFunc(w.ops, func(o op) bool { return o.seq == seq })
		if at >= 0 {
			w.ops = w.ops[:at]
		}
	}
}

// note notes a key, if the collection's changes are noted.
func (b *Base) note(name string, k []byte) {
	if n, ok := b.notes[name]; ok {
		n.keys[string(k)] = struct{}{}
	}
}
