package base

import (
	"muniment/api"
	"muniment/atom"
	"muniment/chain"
	"muniment/plain"
	"muniment/tree"
	"muniment/val"
)

// A document's entry says by its first byte where the document is.
const (
	inEntry  = 0 // its bytes follow
	inChain  = 1 // its chain's first page follows
	goneFrom = 2 // nowhere: its chain was freed, in a grave
)

// inlineMost is how many bytes a document has at most that stands in its entry.
const inlineMost = 100

// chained tells the first page of the chain that an entry's value leads to.
func chained(v []byte) (int, bool) {
	if len(v) != 1+rootSize || v[0] != inChain {
		return 0, false
	}
	return readRoot(v[1:]), true
}

// chainRef tells the value of an entry whose document's chain begins at first.
func chainRef(first int) []byte { return append([]byte{inChain}, rootBytes(first)...) }

// stored tells a document's bytes, of its entry's value.
func stored(r atom.Reader, v []byte) ([]byte, api.Errno) {
	if first, ok := chained(v); ok {
		return chain.Read(r, first)
	}
	if len(v) < 1 || v[0] != inEntry {
		return nil, api.ErrForm
	}
	return v[1:], api.OK
}

// doc tells the document of an entry's value.
func doc(r atom.Reader, v []byte) (api.Val, api.Errno) {
	b, e := stored(r, v)
	if e != api.OK {
		return api.Val{}, e
	}
	return val.Get(b)
}

// read tells the document of a key, and its bytes; false, if there is none.
func (c *coll) read(r atom.Reader, k []byte) (d api.Val, b []byte, ok bool, e api.Errno) {
	v, ok, e := tree.Get(r, c.root, k)
	if !ok || e != api.OK {
		return api.Val{}, nil, false, e
	}
	if b, e = stored(r, v); e != api.OK {
		return api.Val{}, nil, false, e
	}
	if d, e = val.Get(b); e != api.OK {
		return api.Val{}, nil, false, e
	}
	return d, b, true, api.OK
}

// parting is what becomes of a chain that a document has no longer.
type parting func(g *atom.Group, first int) api.Errno

// store puts bytes of a document at a key, in place of those that are there; none: it is taken out.
func (c *coll) store(g *atom.Group, k, b []byte, part parting) api.Errno {
	old, had, e := tree.Get(g, c.root, k)
	if e != api.OK {
		return e
	}
	if first, ok := chained(old); had && ok {
		if e := part(g, first); e != api.OK {
			return e
		}
	}
	if len(b) == 0 {
		_, _, e := tree.Take(g, c.root, k)
		return e
	}
	v := append([]byte{inEntry}, b...)
	if len(b) > inlineMost {
		first, e := chain.Write(g, b)
		if e != api.OK {
			return e
		}
		v = chainRef(first)
	}
	_, _, e = tree.Put(g, c.root, k, v)
	return e
}

// turn is what changes of an index with a document.
type turn struct {
	x        *index
	old, now []byte // none: nil
}

// turns tells what changes of the indexes, if old becomes now. A document that can have no entry has none.
func (c *coll) turns(old, now api.Val) []turn {
	var out []turn
	for _, x := range c.indexes {
		t := turn{x: x}
		if k, ok, e := plain.Entry(x.IndexDef, old); ok && e == api.OK {
			t.old = k
		}
		if k, ok, e := plain.Entry(x.IndexDef, now); ok && e == api.OK {
			t.now = k
		}
		if string(t.old) != string(t.now) {
			out = append(out, t)
		}
	}
	return out
}

// apply makes now, as bytes b, the document of a key, in place of old: in the documents' tree, and in all indexes.
func (c *coll) apply(g *atom.Group, k []byte, old, now api.Val, b []byte, part parting) ([]turn, api.Errno) {
	if e := c.store(g, k, b, part); e != api.OK {
		return nil, e
	}
	turns := c.turns(old, now)
	for _, t := range turns {
		if t.old != nil {
			if _, _, e := tree.Take(g, t.x.root, t.old); e != api.OK {
				return nil, e
			}
		}
		if t.now != nil {
			if _, _, e := tree.Put(g, t.x.root, t.now, nil); e != api.OK {
				return nil, e
			}
		}
	}
	return turns, api.OK
}
