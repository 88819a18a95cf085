package atom

import (
	"cmp"
	"slices"

	"muniment/api"
	"muniment/page"
	"muniment/pool"
)

const (
	bodyAt = 12 // where a page's bytes begin that are not its LSN and sum
	gap    = 6  // so few bytes that stay between two that change are written, too
)

// Group is page changes that are done wholly or not at all.
type Group struct {
	s     *Store
	under Reader
	pages map[int][]byte
	over  bool
}

// Group begins a group.
func (s *Store) Group() (*Group, api.Errno) {
	switch {
	case s == nil:
		return nil, api.ErrDead
	case s.open != nil:
		return nil, api.ErrState
	}
	s.open = &Group{s: s, under: s, pages: map[int][]byte{}}
	return s.open, api.OK
}

// Read tells page n, with what the group wrote.
func (g *Group) Read(n int) ([]byte, api.Errno) {
	switch {
	case g == nil || g.s == nil:
		return nil, api.ErrState
	case n < 0 || n >= g.s.d.Pages():
		return nil, api.ErrArg
	case g.over:
		return nil, api.ErrState
	}
	if b, ok := g.pages[n]; ok {
		return append(make([]byte, 0, len(b)), b...), api.OK
	}
	return g.under.Read(n)
}

// Write makes b what the group reads at n from then on.
func (g *Group) Write(n int, b []byte) api.Errno {
	if _, e := g.Read(n); e != api.OK {
		return e
	}
	if !page.Good(b) {
		return api.ErrForm
	}
	g.pages[n] = slices.Clone(b)
	return api.OK
}

// Pages tells which pages the group wrote, rising.
func (g *Group) Pages() []int {
	if g == nil {
		return nil
	}
	out := make([]int, 0, len(g.pages))
	for n := range g.pages {
		out = append(out, n)
	}
	slices.Sort(out)
	return out
}

// Drop ends the group, and nothing is changed.
func (g *Group) Drop() {
	if g != nil && !g.over {
		g.end()
	}
}

// end ends the group.
func (g *Group) end() {
	g.over = true
	g.pages = nil
	if g.s != nil {
		g.s.open = nil
	}
}

// Done appends the group's record, with all that it changed.
func (g *Group) Done(r api.Rec) (uint64, api.Errno) {
	switch {
	case g == nil || g.over || g.s == nil:
		return 0, api.ErrState
	case r.Kind < 1 || r.Kind > mostGroup || len(r.Changes) > 0:
		return 0, api.ErrArg
	}
	pages, s := g.Pages(), g.s
	changes, e := g.changes(pages, s.l.End())
	if e != api.OK {
		return 0, e
	}
	r.Changes = changes
	lsn, e := s.l.Append(r)
	if e != api.OK {
		return 0, e
	}
	for _, n := range pages {
		if e := s.put(n, g.pages[n], lsn); e != api.OK {
			g.end()
			return 0, e
		}
	}
	g.end()
	return lsn, api.OK
}

// put makes b page n in memory.
func (s *Store) put(n int, b []byte, lsn uint64) api.Errno {
	if _, e := s.p.Pin(n); e != api.OK {
		return e
	}
	e := s.p.Put(n, b, lsn)
	s.p.Unpin(n)
	return e
}

// changes tells what leads from the pages as they are to what the group wrote. The first change of a page
// since it was certain has all of it: a torn page is made anew out of that.
func (g *Group) changes(pages []int, lsn uint64) ([]api.Change, api.Errno) {
	var out []api.Change
	dirty := g.s.p.Dirty()
	for _, n := range pages {
		old, e := g.s.Read(n)
		if e != api.OK {
			return nil, e
		}
		parts := differences(n, old, g.pages[n])
		if !isDirty(dirty, n) || cost(parts) > api.PageSize {
			sealed, e := page.Seal(g.pages[n], lsn)
			if e != api.OK {
				return nil, e
			}
			parts = []api.Change{{Page: n, Whole: true, B: sealed}}
		}
		out = append(out, parts...)
	}
	return out, api.OK
}

// isDirty tells whether page n is among the pages that are dirty.
func isDirty(dirty []pool.Entry, n int) bool {
	_, ok := slices.BinarySearchFunc(dirty, n, func(x pool.Entry, n int) int { return cmp.Compare(x.Page, n) })
	return ok
}

// cost tells about how many bytes of the log changes need.
func cost(parts []api.Change) int {
	n := 0
	for _, c := range parts {
		n += 7 + len(c.B)
	}
	return n
}

// differences tells the rows of bytes in which page n's new bytes are not the old ones; one without bytes, if there are none.
func differences(n int, old, now []byte) []api.Change {
	var out []api.Change
	for at := bodyAt; at < api.PageSize; at++ {
		if old[at] == now[at] {
			continue
		}
		if last := len(out) - 1; last >= 0 && at-out[last].At-len(out[last].B) <= gap {
			from := out[last].At
			out[last].B = now[from : at+1 : at+1]
			continue
		}
		out = append(out, api.Change{Page: n, At: at, B: now[at : at+1 : at+1]})
	}
	if out == nil {
		out = []api.Change{{Page: n, At: bodyAt}}
	}
	return out
}
