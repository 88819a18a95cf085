package base

import (
	"bytes"
	"slices"

	"muniment/api"
	"muniment/atom"
	"muniment/plain"
)

// valued is an entry, and how many of its bytes are the value's.
type valued struct {
	entry []byte
	value int
}

// index does Index: what it is refused for is seen ahead of the first page's change.
func (a *asked) index() api.Reply {
	x := plain.IndexDef{Name: a.r.Index, Path: a.r.Path, Unique: a.r.Unique}
	all, e := a.entries(x)
	if e != api.OK {
		return refused(e)
	}
	root, e := a.b.Raise()
	if e != api.OK {
		return refused(e)
	}
	for e == api.OK && len(all) > 0 {
		n := min(batch, len(all))
		e = a.b.taken(func(g *atom.Group) api.Errno {
			for _, v := range all[:n] {
				if e := enter(g, root, v.entry, true); e != api.OK {
					return e
				}
			}
			return api.OK
		}, false)
		all = all[n:]
	}
	if e == api.OK {
		e = a.b.Adopt(a.r.Coll, x, root)
	}
	if e != api.OK {
		a.b.raze(root)
	}
	return refused(e)
}

// entries tells the entries of all documents, rising; or why there can be no such index.
func (a *asked) entries(x plain.IndexDef) ([]valued, api.Errno) {
	var all []valued
	e := a.b.each(a.c.root, nil, func(k, v []byte) (bool, api.Errno) {
		d, e := doc(a.b.s, v)
		if e != api.OK {
			return false, e
		}
		entry, ok, e := plain.Entry(x, d)
		if ok {
			all = append(all, valued{entry: entry, value: len(entry) - len(k)})
		}
		return true, e
	})
	if e != api.OK {
		return nil, e
	}
	slices.SortFunc(all, func(a, b valued) int { return bytes.Compare(a.entry, b.entry) })
	for i := 1; x.Unique && i < len(all); i++ {
		if bytes.HasPrefix(all[i].entry, all[i-1].entry[:all[i-1].value]) {
			return nil, api.ErrUnique
		}
	}
	return all, api.OK
}

// raze buries a tree, and digs till it is gone.
func (b *Base) raze(root int) {
	if b.Bury(root) != api.OK {
		return
	}
	for {
		i := slices.IndexFunc(b.loose, func(x loose) bool { return x.root == root })
		if i < 0 {
			return
		}
		// the other graves may wait
		if e := b.digOne(b.loose[i]); e != api.OK {
			return
		}
	}
}
