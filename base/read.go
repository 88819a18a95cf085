package base

import (
	"muniment/api"
	"muniment/key"
	"muniment/plain"
	"muniment/tree"
)

// row tells the document that an entry of an index (index empty: of the documents) leads to,
// and the value, or the id, by which it stands there; false, if it leads to none.
func (b *Base) row(c *coll, of string, k, v []byte) (d, at api.Val, ok bool, e api.Errno) {
	if of == "" {
		if at, e = key.Back(k); e != api.OK {
			return api.Val{}, api.Val{}, false, e
		}
		d, e = doc(b.s, v)
		return d, at, e == api.OK, e
	}
	l, e := key.Parts(k, make([]bool, 2))
	if e != api.OK {
		// what another caller put into the tree: nothing
		return api.Val{}, api.Val{}, false, api.OK
	}
	id, e := key.Of(l[1])
	if e != api.OK {
		return api.Val{}, api.Val{}, false, e
	}
	d, _, ok, e = c.read(b.s, id)
	return d, l[0], ok, e
}

// State tells all that the trees hold.
func (b *Base) State() (plain.State, api.Errno) {
	if b == nil {
		return plain.State{}, api.ErrState
	}
	out := b.Shape()
	for i, c := range b.colls {
		e := b.each(c.root, nil, func(_, v []byte) (bool, api.Errno) {
			d, e := doc(b.s, v)
			out.Colls[i].Docs = append(out.Colls[i].Docs, d)
			return true, e
		})
		if e != api.OK {
			return plain.State{}, e
		}
	}
	return out, api.OK
}

// Entries tells all entries of an index, or all keys of the documents.
func (b *Base) Entries(name, of string) ([][]byte, api.Errno) {
	root, ok := b.Root(name, of)
	if !ok {
		return nil, api.ErrName
	}
	var out [][]byte
	e := b.each(root, nil, func(k, _ []byte) (bool, api.Errno) {
		out = append(out, k)
		return true, api.OK
	})
	if e != api.OK {
		return nil, e
	}
	return out, api.OK
}

// Next tells the least entry above after, and its document.
func (b *Base) Next(name, of string, after []byte) (k []byte, d api.Val, ok bool, e api.Errno) {
	root, ok := b.Root(name, of)
	if !ok {
		return nil, api.Val{}, false, api.ErrName
	}
	var v []byte
	if len(after) == 0 {
		k, v, ok, e = tree.Seek(b.s, root, nil)
	} else {
		k, v, ok, e = above(b.s, root, after)
	}
	if !ok || e != api.OK {
		return nil, api.Val{}, false, e
	}
	c, _ := b.find(name)
	if d, _, _, e = b.row(c, of, k, v); e != api.OK {
		return nil, api.Val{}, false, e
	}
	return k, d, true, api.OK
}

// At tells the document of a key; false, if there is none.
func (b *Base) At(name string, k []byte) (api.Val, bool, api.Errno) {
	c, ok := b.find(name)
	if !ok {
		return api.Val{}, false, api.ErrName
	}
	if len(k) < 1 || len(k) > api.MaxKey {
		return api.Val{}, false, api.OK
	}
	d, _, ok, e := c.read(b.s, k)
	return d, ok, e
}

// Claim tells a number for a collection that nobody else has claimed.
func (b *Base) Claim(name string) (uint64, api.Errno) {
	if _, ok := b.find(name); !ok {
		return 0, api.ErrName
	}
	if b.claims[name] != 0 {
		return 0, api.ErrBusy
	}
	b.claimed++
	b.claims[name] = b.claimed
	return b.claimed, api.OK
}

// Unclaim gives up what was claimed by that number.
func (b *Base) Unclaim(name string, claim uint64) {
	if b != nil && b.claims[name] == claim {
		delete(b.claims, name)
	}
}

// Note notes from now on the keys of documents that change in a collection, or no longer.
func (b *Base) Note(name string, on bool) api.Errno {
	if _, ok := b.find(name); !ok {
		return api.ErrName
	}
	delete(b.notes, name)
	if on {
		b.notes[name] = &jotting{keys: map[string]struct{}{}}
	}
	return api.OK
}

// Chains tells the first pages of all chains of documents that hang on a tree's entries.
func (b *Base) Chains(root int) ([]int, api.Errno) {
	if b == nil {
		return nil, api.ErrState
	}
	for _, x := range b.loose {
		if x.root == root && !x.chains {
			return nil, api.OK
		}
	}
	var out []int
	e := b.each(root, nil, func(_, v []byte) (bool, api.Errno) {
		if first, ok := chained(v); ok {
			out = append(out, first)
		}
		return true, api.OK
	})
	if e != api.OK {
		return nil, e
	}
	return out, api.OK
}
