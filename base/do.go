package base

import (
	"bytes"
	"slices"

	"muniment/api"
	"muniment/atom"
	"muniment/key"
	"muniment/plain"
	"muniment/tree"
	"muniment/val"
)

// asked is a request of a transaction, and its collection.
type asked struct {
	b *Base
	r api.Request
	c *coll
	w *work
	t uint64 // the transaction
}

// answers tells what does each request, when plain refuses it not for what its names and its own values are.
func answers() map[int]func(*asked) api.Reply {
	return map[int]func(*asked) api.Reply{
		plain.Make:    (*asked).make,
		plain.Drop:    (*asked).drop,
		plain.Put:     (*asked).put,
		plain.Add:     (*asked).put,
		plain.Take:    (*asked).take,
		plain.Get:     (*asked).get,
		plain.Index:   (*asked).index,
		plain.Unindex: (*asked).unindex,
		plain.Find:    (*asked).find,
		plain.Count:   (*asked).count,
	}
}

// lasting tells whether a request is done for good at once.
func lasting(do int) bool {
	return do == plain.Make || do == plain.Drop || do == plain.Index || do == plain.Unindex
}

// Do does what is asked for within a transaction.
func (b *Base) Do(id uint64, r api.Request) api.Reply {
	if b == nil || b.works[id] == nil {
		return refused(api.ErrTx)
	}
	if lasting(r.Do) && b.busy(r.Coll) {
		return refused(api.ErrState)
	}
	// without documents plain tells of Take and Get that there is nothing, if there is no other error
	_, reply := plain.Do(b.Shape(), r)
	if e := reply.E; e != api.OK && e != api.ErrEnd {
		return refused(e)
	}
	c, _ := b.find(r.Coll)
	return answers()[r.Do](&asked{b: b, r: r, c: c, w: b.works[id], t: id})
}

func refused(e api.Errno) api.Reply { return api.Reply{E: e} }

func (a *asked) make() api.Reply {
	b, name := a.b, a.r.Coll
	var root int
	e := b.taken(func(g *atom.Group) api.Errno {
		var e api.Errno
		if root, e = tree.Make(g); e != api.OK {
			return e
		}
		_, _, e = tree.Put(g, b.catalogue, collKey(name), rootBytes(root))
		return e
	}, true)
	if e == api.OK {
		at, _ := b.place(name)
		b.colls = slices.Insert(b.colls, at, &coll{name: name, root: root})
	}
	return refused(e)
}

func (a *asked) drop() api.Reply {
	b, c := a.b, a.c
	dropped := []loose{{root: c.root, chains: true}}
	for _, x := range c.indexes {
		dropped = append(dropped, loose{root: x.root})
	}
	e := b.taken(func(g *atom.Group) api.Errno {
		for _, x := range c.indexes {
			if e := b.takeIndex(g, c.name, x.Name); e != api.OK {
				return e
			}
		}
		if _, _, e := tree.Take(g, b.catalogue, collKey(c.name)); e != api.OK {
			return e
		}
		for _, x := range dropped {
			if e := b.addLoose(g, x); e != api.OK {
				return e
			}
		}
		return api.OK
	}, true)
	if e == api.OK {
		at, _ := b.place(c.name)
		b.colls = slices.Delete(b.colls, at, at+1)
		delete(b.notes, c.name)
		delete(b.claims, c.name)
		for _, x := range dropped {
			b.loosen(x)
		}
	}
	return refused(e)
}

func (a *asked) unindex() api.Reply {
	b, c := a.b, a.c
	at, _ := c.place(a.r.Index)
	x := loose{root: c.indexes[at].root}
	e := b.taken(func(g *atom.Group) api.Errno {
		if e := b.takeIndex(g, c.name, a.r.Index); e != api.OK {
			return e
		}
		return b.addLoose(g, x)
	}, true)
	if e == api.OK {
		c.indexes = slices.Delete(c.indexes, at, at+1)
		b.loosen(x)
	}
	return refused(e)
}

// put does Put and Add.
func (a *asked) put() api.Reply {
	k, _ := plain.Key(a.r.Doc)
	now, _ := val.Put(a.r.Doc)
	old, was, had, e := a.c.read(a.b.s, k)
	switch {
	case e != api.OK:
		return refused(e)
	case had && a.r.Do == plain.Add:
		return refused(api.ErrThere)
	}
	for _, x := range a.c.indexes {
		if clash, e := a.clashes(x, k); clash || e != api.OK {
			if e == api.OK {
				e = api.ErrUnique
			}
			return refused(e)
		}
	}
	if e := a.change(k, old, was, a.r.Doc, now); e != api.OK {
		return refused(e)
	}
	if had {
		return api.Reply{N: 1}
	}
	return api.Reply{}
}

// clashes tells whether another document has the same value in a unique index as the one that is put at k.
func (a *asked) clashes(x *index, k []byte) (bool, api.Errno) {
	if !x.Unique {
		return false, api.OK
	}
	entry, ok, _ := plain.Entry(x.IndexDef, a.r.Doc)
	if !ok {
		return false, api.OK
	}
	value := entry[:len(entry)-len(k)]
	clash := false
	e := a.b.each(x.root, value, func(other, _ []byte) (bool, api.Errno) {
		same := bytes.HasPrefix(other, value)
		clash = same && !bytes.Equal(other, entry)
		return same && !clash, api.OK
	})
	return clash, e
}

// change makes now the document of k, in place of old, as a group of the transaction.
func (a *asked) change(k []byte, old api.Val, was []byte, now api.Val, b []byte) api.Errno {
	if e := a.b.tend(); e != api.OK {
		return e
	}
	s := &swap{a: a, k: k, old: old, now: now, was: was, is: b}
	e := a.b.grouped(s.wasting, s.done)
	if e == api.ErrFull {
		e = a.b.pressed(s.freeing, s.done)
	}
	if e == api.OK {
		a.b.note(a.c.name, k)
		a.w.changed[a.c.name] = struct{}{}
	}
	return e
}

// document tells the document whose id is the request's Key.
func (a *asked) document() (k []byte, d api.Val, b []byte, e api.Errno) {
	if k, e = key.Of(a.r.Key); e != api.OK {
		return nil, api.Val{}, nil, e
	}
	d, b, ok, e := a.c.read(a.b.s, k)
	if e == api.OK && !ok {
		e = api.ErrEnd
	}
	return k, d, b, e
}

func (a *asked) take() api.Reply {
	k, d, was, e := a.document()
	if e == api.OK {
		e = a.change(k, d, was, api.Val{}, nil)
	}
	if e != api.OK {
		return refused(e)
	}
	return api.Reply{Docs: []api.Val{d}}
}

func (a *asked) get() api.Reply {
	_, d, _, e := a.document()
	if e != api.OK {
		return refused(e)
	}
	return api.Reply{Docs: []api.Val{d}}
}

func (a *asked) count() api.Reply {
	n := 0
	e := a.b.each(a.c.root, nil, func(_, _ []byte) (bool, api.Errno) {
		n++
		return true, api.OK
	})
	if e != api.OK {
		return refused(e)
	}
	return api.Reply{N: n}
}

// find does Find.
func (a *asked) find() api.Reply {
	root, _ := a.b.Root(a.r.Coll, a.r.Index)
	// a bound whose key is too long to be one is above and below others all the same
	from, _ := key.Of(a.r.Low)
	var out []api.Val
	e := a.b.each(root, from, func(k, v []byte) (bool, api.Errno) {
		d, at, ok, e := a.b.row(a.c, a.r.Index, k, v)
		if e != api.OK || !ok {
			return true, e
		}
		low, _ := val.Compare(at, a.r.Low)
		high, _ := val.Compare(at, a.r.High)
		if a.r.High.Kind != 0 && high > 0 {
			return false, api.OK
		}
		if a.r.Low.Kind == 0 || low >= 0 {
			out = append(out, d)
		}
		return len(out) < a.r.N, api.OK
	})
	if e != api.OK {
		return refused(e)
	}
	return api.Reply{N: len(out), Docs: out}
}
