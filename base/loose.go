package base

import (
	"bytes"
	"maps"
	"slices"

	"muniment/api"
	"muniment/atom"
	"muniment/chain"
	"muniment/plain"
	"muniment/space"
	"muniment/tree"
)

const (
	digPages = 8  // pages that Dig frees at most
	batch    = 16 // entries that go into a tree in one group
)

// Noted tells the keys that were noted.
func (b *Base) Noted(name string) ([][]byte, api.Errno) {
	if _, ok := b.find(name); !ok {
		return nil, api.ErrName
	}
	n, ok := b.notes[name]
	if !ok {
		return nil, api.ErrState
	}
	var out [][]byte
	for _, k := range slices.Sorted(maps.Keys(n.keys)) {
		out = append(out, []byte(k))
	}
	clear(n.keys)
	return out, api.OK
}

// Raise makes a tree of no collection.
func (b *Base) Raise() (int, api.Errno) {
	if b == nil {
		return 0, api.ErrState
	}
	var root int
	e := b.taken(func(g *atom.Group) api.Errno {
		var e api.Errno
		if root, e = tree.Make(g); e != api.OK {
			return e
		}
		return b.addLoose(g, loose{root: root})
	}, false)
	if e != api.OK {
		return 0, e
	}
	b.loosen(loose{root: root})
	b.raised[root] = struct{}{}
	return root, api.OK
}

// isRaised tells whether a root is that of a tree that was raised, and is neither adopted nor buried.
func (b *Base) isRaised(root int) bool {
	if b == nil {
		return false
	}
	_, ok := b.raised[root]
	return ok
}

// Enter puts an entry into a tree that was raised, or takes it out, and tells whether it was there.
func (b *Base) Enter(root int, entry []byte, on bool) (bool, api.Errno) {
	if !b.isRaised(root) || len(entry) < 1 || len(entry) > api.MaxKey {
		return false, api.ErrArg
	}
	if _, had, e := tree.Get(b.s, root, entry); e != api.OK || had == on {
		return had && e == api.OK, e
	}
	e := b.taken(func(g *atom.Group) api.Errno { return enter(g, root, entry, on) }, false)
	return e == api.OK && !on, e
}

// enter puts an entry in, or takes it out.
func enter(g *atom.Group, root int, entry []byte, on bool) api.Errno {
	if on {
		_, _, e := tree.Put(g, root, entry, nil)
		return e
	}
	_, _, e := tree.Take(g, root, entry)
	return e
}

// Adopt makes a tree that was raised an index's.
func (b *Base) Adopt(name string, x plain.IndexDef, root int) api.Errno {
	if !b.isRaised(root) {
		return api.ErrArg
	}
	if _, r := plain.Do(b.Shape(), api.Request{Do: plain.Index, Coll: name, Index: x.Name, Path: x.Path, Unique: x.Unique}); r.E != api.OK {
		return r.E
	}
	made := &index{IndexDef: x, root: root}
	e := b.taken(func(g *atom.Group) api.Errno {
		if e := b.takeLoose(g, root); e != api.OK {
			return e
		}
		return b.addIndex(g, name, made)
	}, true)
	if e != api.OK {
		return e
	}
	b.forget(root)
	c, _ := b.find(name)
	at, _ := c.place(x.Name)
	c.indexes = slices.Insert(c.indexes, at, made)
	return api.OK
}

// Bury makes a tree that was raised a grave: the catalogue has it as of no collection already.
func (b *Base) Bury(root int) api.Errno {
	if !b.isRaised(root) {
		return api.ErrArg
	}
	delete(b.raised, root)
	return api.OK
}

// Trees tells the roots of all trees of collections, indexes, and those that were raised.
func (b *Base) Trees() ([]int, api.Errno) {
	if b == nil {
		return nil, api.ErrState
	}
	var out []int
	for _, c := range b.colls {
		out = append(out, c.root)
		for _, x := range c.indexes {
			out = append(out, x.root)
		}
	}
	for root := range b.raised {
		out = append(out, root)
	}
	slices.Sort(out)
	return out, api.OK
}

// Graves tells the roots of all graves.
func (b *Base) Graves() ([]int, api.Errno) {
	if b == nil {
		return nil, api.ErrState
	}
	var out []int
	for _, x := range b.graves() {
		out = append(out, x.root)
	}
	return out, api.OK
}

// Dig frees some pages of a grave, and tells whether graves are left.
func (b *Base) Dig() (bool, api.Errno) {
	if b == nil {
		return false, api.ErrState
	}
	graves := b.graves()
	if len(graves) == 0 {
		return false, api.OK
	}
	if e := b.digOne(graves[0]); e != api.OK {
		return false, e
	}
	return len(b.graves()) > 0, api.OK
}

// digOne frees some pages of that grave.
func (b *Base) digOne(x loose) api.Errno {
	if x.root == b.waste.root {
		// what came into it below the keys that were dug would not be met
		b.waste = waste{}
	}
	d := &digger{b: b, x: x, left: digPages}
	if e := b.within(d.dig); e != api.OK {
		return e
	}
	switch at := slices.Index(b.loose, x); {
	case d.gone:
		b.forget(d.x.root)
	case !d.x.chains:
		b.loose[at].chains = false
		delete(b.dug, d.x.root)
	default:
		b.dug[d.x.root] = d.at
	}
	return api.OK
}

// digger frees pages of a grave: first the chains of its documents, then its tree's.
type digger struct {
	b    *Base
	x    loose
	left int    // pages that may be freed
	at   []byte // the key up to which chains are freed
	gone bool
}

func (d *digger) dig(g *atom.Group) api.Errno {
	if d.x.chains {
		d.at = d.b.dug[d.x.root]
		if e := d.chains(g); e != api.OK || d.x.chains || d.left == 0 {
			return e
		}
	}
	before, e := space.Left(g)
	if e != api.OK {
		return e
	}
	empty, e := tree.Empty(g, d.x.root, d.left)
	if e != api.OK || !empty {
		return e
	}
	if now, e := space.Left(g); e != api.OK || now-before == d.left {
		return e
	}
	if e := space.Free(g, d.x.root); e != api.OK {
		return e
	}
	d.gone = true
	return d.b.takeLoose(g, d.x.root)
}

// chains frees chains, as many pages of them as may be.
func (d *digger) chains(g *atom.Group) api.Errno {
	for {
		k, v, ok, e := above(g, d.x.root, d.at)
		if e != api.OK {
			return e
		}
		if !ok {
			d.x.chains = false
			return d.b.addLoose(g, d.x)
		}
		done, e := d.chain(g, k, v)
		if !done || e != api.OK {
			return e
		}
		d.at = k
	}
}

// chain frees what may be freed of an entry's chain; the entry leads to what is left of it, in as many bytes.
func (d *digger) chain(g *atom.Group, k, v []byte) (bool, api.Errno) {
	first, ok := chained(v)
	if !ok {
		return true, api.OK
	}
	pages, e := chain.Pages(g, first)
	if e != api.OK {
		return false, e
	}
	n := min(len(pages), d.left)
	for _, p := range pages[:n] {
		if e := space.Free(g, p); e != api.OK {
			return false, e
		}
	}
	d.left -= n
	now := bytes.Repeat([]byte{goneFrom}, len(v))
	if n < len(pages) {
		now = chainRef(pages[n])
	}
	_, _, e = tree.Put(g, d.x.root, k, now)
	return n == len(pages), e
}
