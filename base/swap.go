package base

import (
	"muniment/api"
	"muniment/atom"
	"muniment/chain"
	"muniment/space"
	"muniment/tree"
)

// waste is a grave that is open: chains that documents have no longer go into it, each as an entry's,
// so that they are given back bit by bit.
type waste struct {
	root  int // 0: none is open
	pages int // of its chains
}

// mostWaste is how many pages of chains make the waste full: what comes then is freed at once.
func (b *Base) mostWaste() int { return b.s.Disk().Pages() / 16 }

// throw puts a chain into the waste. There is no other one as long as a grave is there: waste that nobody digs
// does not grow, not by crashes either.
func (b *Base) throw(g *atom.Group, w *waste, first int) api.Errno {
	if w.pages >= b.mostWaste() || w.root == 0 && len(b.graves()) > 0 {
		return chain.Free(g, first)
	}
	pages, e := chain.Pages(g, first)
	if e != api.OK {
		return e
	}
	if w.root == 0 {
		if w.root, e = tree.Make(g); e != api.OK {
			return e
		}
		if e := b.addLoose(g, loose{root: w.root, chains: true}); e != api.OK {
			return e
		}
	}
	w.pages += len(pages)
	_, _, e = tree.Put(g, w.root, rootBytes(first), chainRef(first))
	return e
}

// wasted notes in memory what the waste is.
func (b *Base) wasted(w waste) {
	if w.root != b.waste.root {
		b.loosen(loose{root: w.root, chains: true})
	}
	b.waste = w
}

// swap is a change of a document within a transaction: now, as bytes is, in place of old, as bytes was.
type swap struct {
	a        *asked
	k        []byte
	old, now api.Val
	was, is  []byte
	o        op    // what undoing it needs
	heaviest int   // how many pages undoing one change may write
	waste    waste // as it is behind the change
}

// fill does the change within a group.
func (s *swap) fill(g *atom.Group, part parting) api.Errno {
	b, c := s.a.b, s.a.c
	before, e := space.Left(g)
	if e != api.OK {
		return e
	}
	turns, e := c.apply(g, s.k, s.old, s.now, s.is, part)
	if e != api.OK {
		return e
	}
	s.o = b.opOf(c, s.was, turns)
	n, e := b.needed(g, &s.o)
	if e != api.OK {
		return e
	}
	s.heaviest = n.heaviest()
	return b.spared(n, before)
}

// wasting does the change; a chain that is given up becomes waste.
func (s *swap) wasting(g *atom.Group) api.Errno {
	s.waste = s.a.b.waste
	return s.fill(g, func(g *atom.Group, first int) api.Errno { return s.a.b.throw(g, &s.waste, first) })
}

// freeing does the change; a chain that is given up is freed: its pages may be those that are lacking.
func (s *swap) freeing(g *atom.Group) api.Errno {
	s.waste = s.a.b.waste
	return s.fill(g, chain.Free)
}

// done has the change done by the transaction.
func (s *swap) done(g *atom.Group) api.Errno {
	b := s.a.b
	if e := b.m.DoneFor(s.a.t, g, undoData(s.o.seq, s.a.c.name, s.k, s.was), s.heaviest); e != api.OK {
		return e
	}
	b.ops = s.o.seq
	s.a.w.add(s.o)
	b.wasted(s.waste)
	return api.OK
}
