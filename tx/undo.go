package tx

import (
	"container/heap"
	"slices"

	"muniment/api"
	"muniment/atom"
)

// due is a transaction whose last step, of that LSN, is to be undone.
type due struct {
	t   *transaction
	lsn uint64
}

// dues are what is to be undone, the greatest LSN first.
type dues []due

func (q dues) Len() int           { return len(q) }
func (q dues) Less(i, j int) bool { return q[i].lsn > q[j].lsn }
func (q dues) Swap(i, j int)      { q[i], q[j] = q[j], q[i] }

// Push puts what is to be undone behind the others.
func (q *dues) Push(x any) { *q = append(*q, x.(due)) }

// Pop takes the last one.
func (q *dues) Pop() any {
	end := len(*q) - 1
	x := (*q)[end]
	*q = (*q)[:end]
	return x
}

// add puts a transaction in, if it has a step behind the mark.
func (q *dues) add(t *transaction, mark uint64) {
	if len(t.steps) > 0 && t.top().lsn > mark {
		heap.Push(q, due{t: t, lsn: t.top().lsn})
	}
}

// asks tells whether undoing what a transaction did behind a mark asks the Undoer.
func (t *transaction) asks(mark uint64) bool {
	return slices.ContainsFunc(t.steps, func(x step) bool { return x.lsn > mark && len(x.data) > 0 })
}

// undo undoes what transactions did behind a mark, the last group of all first.
func (m *Manager) undo(all []*transaction, mark uint64) api.Errno {
	// seen ahead of the first step, so that nothing has changed when it is refused
	if m.u == nil && slices.ContainsFunc(all, func(t *transaction) bool { return t.asks(mark) }) {
		return api.ErrArg
	}
	q := &dues{}
	for _, t := range all {
		q.add(t, mark)
	}
	for q.Len() > 0 {
		x := heap.Pop(q).(due)
		if e := m.undoStep(x.t); e != api.OK {
			return e
		}
		q.add(x.t, mark)
	}
	return api.OK
}

// undoStep undoes a transaction's last step.
func (m *Manager) undoStep(t *transaction) api.Errno {
	if len(t.top().data) == 0 {
		t.pop()
		return api.OK
	}
	e := m.tryUndo(t, false)
	if e == api.ErrFull {
		if e := m.Renew(); e != api.OK {
			return e
		}
		e = m.tryUndo(t, true)
	}
	if e == api.OK {
		t.pop()
	}
	return e
}

// tryUndo undoes a transaction's last step in a group; ErrFull, if the log has no room for that
// beside what is kept back for the steps ahead, or no room at all, if it is the last try.
func (m *Manager) tryUndo(t *transaction, last bool) api.Errno {
	x := t.top()
	g, e := m.s.Group()
	if e != api.OK {
		return e
	}
	defer g.Drop()
	if e := ask(m.u, g, x.data); e != api.OK {
		return e
	}
	bytes, _ := m.need()
	if !last && recordCost+pageCost*len(g.Pages())+bytes > m.free() {
		return api.ErrFull
	}
	lsn, e := g.Done(api.Rec{Kind: undoKind, Tx: t.id, Prev: t.last, Next: x.prev})
	if e == api.OK {
		t.last = lsn
	}
	return e
}

// ask lets the Undoer fill a group. It is another's, and may be a nil pointer: if it panics, it is no argument to go by.
func ask(u Undoer, g *atom.Group, data []byte) (e api.Errno) {
	defer func() {
		if recover() != nil {
			e = api.ErrArg
		}
	}()
	return u.Undo(g, slices.Clone(data))
}
