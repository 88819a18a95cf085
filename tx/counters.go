package tx

import (
	"muniment/api"
	"muniment/atom"
	"muniment/disk"
	"muniment/page"
	"muniment/sum"
)

const (
	counterKind  = 206
	mostCounters = 100
	perPage      = 60 // counters that a page holds
	counterSize  = 8
)

// Counters are numbers that transactions add to.
type Counters struct {
	s *atom.Store
	m *Manager
	n int
}

// OpenCounters opens a device's counters, or makes so many.
func OpenCounters(d *disk.Disk, frames, n int) (*Counters, api.Errno) {
	if n < 1 || n > mostCounters {
		return nil, api.ErrArg
	}
	s, e := atom.Open(d, frames)
	if e != api.OK {
		return nil, e
	}
	c := &Counters{s: s, n: n}
	if e := c.found(); e != api.OK {
		return nil, e
	}
	if c.m, e = Open(s, c); e != api.OK {
		return nil, e
	}
	return c, api.OK
}

// found looks for the counters, and makes them, if there are none.
func (c *Counters) found() api.Errno {
	p, e := c.s.Read(0)
	if e != api.OK {
		return e
	}
	if kind, _, _, n, e := page.Head(p); e == api.OK {
		if kind != counterKind || n != c.n {
			return api.ErrArg
		}
		return api.OK
	}
	g, e := c.s.Group()
	if e != api.OK {
		return e
	}
	defer g.Drop()
	for i := 0; perPage*i < c.n; i++ {
		p, _ := page.New(counterKind)
		p, _ = page.Set(p, 0, c.n)
		p, _ = page.Insert(p, 0, make([]byte, perPage*counterSize))
		if e := g.Write(i, p); e != api.OK {
			return e
		}
	}
	_, e = g.Done(api.Rec{Kind: groupKind})
	return e
}

// Manager tells the counters' transactions.
func (c *Counters) Manager() *Manager {
	if c == nil {
		return nil
	}
	return c.m
}

// read tells the page and the cell in which counter i stands, and its number.
func (c *Counters) read(r atom.Reader, i int) (p, cell []byte, n uint64, e api.Errno) {
	if p, e = r.Read(i / perPage); e != api.OK {
		return nil, nil, 0, e
	}
	if cell, e = page.Cell(p, 0); e != api.OK {
		return nil, nil, 0, e
	}
	n, e = sum.Get(cell, i%perPage*counterSize, counterSize)
	return p, cell, n, e
}

// add adds d to counter i within a group.
func (c *Counters) add(g *atom.Group, i int, d uint64) api.Errno {
	p, cell, n, e := c.read(g, i)
	if e != api.OK {
		return e
	}
	if cell, e = sum.Put(cell, i%perPage*counterSize, counterSize, n+d); e != api.OK {
		return e
	}
	if p, e = page.Replace(p, 0, cell); e != api.OK {
		return e
	}
	return g.Write(i/perPage, p)
}

// Undo takes off what was added: the counter's number, and what it was.
func (c *Counters) Undo(g *atom.Group, data []byte) api.Errno {
	i, _ := sum.Get(data, 0, 1)
	d, e := sum.Get(data, 1, counterSize)
	if e != api.OK || c == nil || i >= uint64(c.n) {
		return api.ErrForm
	}
	return c.add(g, int(i), -d)
}

// Add adds d to counter i, within a transaction.
func (c *Counters) Add(id uint64, i int, d int64) api.Errno {
	if _, e := c.Manager().find(id); e != api.OK {
		return e
	}
	if i < 0 || i >= c.n {
		return api.ErrArg
	}
	e := c.tryAdd(id, i, uint64(d))
	if e != api.ErrFull {
		return e
	}
	if e := c.m.Renew(); e != api.OK {
		return e
	}
	return c.tryAdd(id, i, uint64(d))
}

// tryAdd adds in one group.
func (c *Counters) tryAdd(id uint64, i int, d uint64) api.Errno {
	g, e := c.s.Group()
	if e != api.OK {
		return e
	}
	defer g.Drop()
	if e := c.add(g, i, d); e != api.OK {
		return e
	}
	undo, _ := sum.Put(make([]byte, 1+counterSize), 0, 1, uint64(i))
	undo, _ = sum.Put(undo, 1, counterSize, d)
	return c.m.Done(id, g, undo)
}

// Value tells what counter i holds.
func (c *Counters) Value(i int) (int64, api.Errno) {
	if c == nil || i < 0 || i >= c.n {
		return 0, api.ErrArg
	}
	_, _, n, e := c.read(c.s, i)
	return int64(n), e
}
