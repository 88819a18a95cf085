package desk

import (
	"muniment/api"
)

// marks is how many marks a transaction may have.
const marks = 16

// mark is a place to which a transaction may go back.
type mark struct {
	set int // when it was set, from 1 on; 0: it is not
	at  uint64
}

// cursor is a range that is told bit by bit.
type cursor struct {
	r    api.Request // the Open that made it
	last []byte      // the last entry that was told
}

// transaction is a session's, or a request's own.
type transaction struct {
	id      uint64
	own     bool
	cursors map[int]*cursor
	marks   [marks]mark
	set     int // how often marks were set
}

// begin begins a transaction of a session.
func (d *Desk) begin(x *session, own bool) api.Errno {
	id, e := d.b.Begin()
	if e != api.OK {
		return e
	}
	x.tx = &transaction{id: id, own: own, cursors: map[int]*cursor{}}
	d.owners[id] = x
	return api.OK
}

// leave frees the locks of a session's transaction; the session has none then.
func (d *Desk) leave(x *session) {
	d.locks.Free(x.tx.id)
	delete(d.owners, x.tx.id)
	x.tx = nil
}

// commit makes a session's transaction certain.
func (d *Desk) commit(x *session) api.Errno {
	if e := d.b.Commit(x.tx.id); e != api.OK {
		return e
	}
	d.leave(x)
	return api.OK
}

// abort undoes a session's transaction, if it has one.
func (d *Desk) abort(x *session) api.Errno {
	if x.job != nil && x.job.build != nil {
		x.job.build.Cancel()
	}
	if x.tx == nil {
		return api.OK
	}
	if e := d.b.Abort(x.tx.id); e != api.OK {
		return e
	}
	d.leave(x)
	return api.OK
}

// explicit tells whether a session has a transaction that it has begun.
func (x *session) explicit() bool { return x.tx != nil && !x.tx.own }

// ended does what the end of a request does to its transaction.
func (d *Desk) ended(x *session, e api.Errno) api.Errno {
	switch {
	case x.tx == nil:
		return api.OK
	case e == api.ErrUnique || e == api.ErrFull || x.tx.own && e != api.OK:
		return d.abort(x)
	case x.tx.own:
		return d.commit(x)
	}
	return api.OK
}

// resolve aborts transactions as long as the one of x lies on a ring of waiting.
func (d *Desk) resolve(id uint64) {
	for {
		victim, ok := d.locks.Victim(id)
		if !ok {
			return
		}
		x := d.owners[victim]
		if d.abort(x) != api.OK {
			return
		}
		if x.job != nil {
			d.answer(x, api.Reply{E: api.ErrVictim})
		}
	}
}
