package desk

import (
	"muniment/api"
	"muniment/lock"
	"muniment/plain"
)

// The requests beside plain's.
const (
	Begin = iota + 20
	Commit
	Abort
	Mark
	Back
	Open
	Next
	Close
)

// gaveUp is thrown by a try that can't go on: it must wait, goes on at the next step, or met an error.
type gaveUp struct {
	wait bool
	e    api.Errno
}

// attempt is one try of a request.
type attempt struct {
	d *Desk
	x *session
	r api.Request
}

// answers tells what does each request.
func answers() map[int]func(*attempt) api.Reply {
	return map[int]func(*attempt) api.Reply{
		plain.Make:    (*attempt).alone,
		plain.Drop:    (*attempt).alone,
		plain.Unindex: (*attempt).alone,
		plain.Count:   (*attempt).count,
		plain.Put:     (*attempt).put,
		plain.Add:     (*attempt).put,
		plain.Take:    (*attempt).take,
		plain.Get:     (*attempt).get,
		plain.Index:   (*attempt).index,
		plain.Find:    (*attempt).find,
		Begin:         (*attempt).begin,
		Commit:        (*attempt).commit,
		Abort:         (*attempt).abort,
		Mark:          (*attempt).mark,
		Back:          (*attempt).back,
		Open:          (*attempt).open,
		Next:          (*attempt).next,
		Close:         (*attempt).close,
	}
}

// try tries a session's request.
func (d *Desk) try(x *session) {
	a := &attempt{d: d, x: x, r: x.job.r}
	reply, left := a.attempt()
	switch {
	case left.wait:
		d.resolve(x.tx.id)
	case left.e == api.OK:
		if e := d.ended(x, reply.E); e == api.OK {
			d.answer(x, reply)
		}
	}
}

// attempt tells the reply, or that the try gave up.
func (a *attempt) attempt() (reply api.Reply, left gaveUp) {
	defer func() {
		if t := recover(); t != nil {
			g, ok := t.(gaveUp)
			if left = g; !ok {
				reply = api.Reply{E: api.ErrState}
			}
		}
	}()
	do, ok := answers()[a.r.Do]
	if !ok {
		return api.Reply{E: api.ErrArg}, gaveUp{}
	}
	if e := a.early(); e != api.OK {
		return api.Reply{E: e}, gaveUp{}
	}
	if a.r.Do < Begin && a.x.tx == nil {
		a.sure(a.d.begin(a.x, true))
	}
	return do(a), gaveUp{}
}

// sure gives up, if the device has died.
func (a *attempt) sure(e api.Errno) {
	if e == api.ErrDead {
		panic(gaveUp{e: e})
	}
}

// later gives up till the next step.
func (a *attempt) later() { panic(gaveUp{e: api.ErrBusy}) }

// ask asks for a lock, and gives up, if it must be waited for.
func (a *attempt) ask(name string, mode int) {
	if a.d.locks.Ask(a.x.tx.id, name, mode) != api.OK {
		panic(gaveUp{wait: true})
	}
}

// early tells the errors that need no lock.
func (a *attempt) early() api.Errno {
	explicit := a.x.explicit()
	switch a.r.Do {
	case Begin, plain.Make, plain.Drop, plain.Index, plain.Unindex:
		if explicit {
			return api.ErrTx
		}
	case Commit, Abort, Mark, Back, Open, Next, Close:
		if !explicit {
			return api.ErrTx
		}
	}
	switch {
	case (a.r.Do == Mark || a.r.Do == Back) && (a.r.N < 0 || a.r.N >= marks):
		return api.ErrArg
	case a.r.Do == Next && (a.r.N < 1 || a.r.N > api.MaxBatch):
		return api.ErrArg
	case a.r.Do == Back && a.x.tx.marks[a.r.N].set == 0:
		return api.ErrName
	case (a.r.Do == Next || a.r.Do == Close) && a.cursor() == nil:
		return api.ErrCursor
	}
	return api.OK
}

// cursor tells the cursor that is named by Key; nil, if there is none.
func (a *attempt) cursor() *cursor {
	if a.r.Key.Kind != api.Int || a.r.Key.N > 1<<31 {
		return nil
	}
	return a.x.tx.cursors[int(a.r.Key.N)]
}

func (a *attempt) begin() api.Reply { return api.Reply{E: a.checked(a.d.begin(a.x, false))} }

// checked tells an error that is not the device's death.
func (a *attempt) checked(e api.Errno) api.Errno {
	a.sure(e)
	return e
}

func (a *attempt) commit() api.Reply { return api.Reply{E: a.checked(a.d.commit(a.x))} }

func (a *attempt) abort() api.Reply { return api.Reply{E: a.checked(a.d.abort(a.x))} }

func (a *attempt) mark() api.Reply {
	t := a.x.tx
	at, e := a.d.b.Mark(t.id)
	if e != api.OK {
		return api.Reply{E: a.checked(e)}
	}
	t.set++
	t.marks[a.r.N] = mark{set: t.set, at: at}
	return api.Reply{}
}

func (a *attempt) back() api.Reply {
	t := a.x.tx
	to := t.marks[a.r.N]
	if e := a.checked(a.d.b.Back(t.id, to.at)); e != api.OK {
		return api.Reply{E: e}
	}
	for i := range t.marks {
		if t.marks[i].set > to.set {
			t.marks[i] = mark{}
		}
	}
	clear(t.cursors)
	return api.Reply{}
}

func (a *attempt) close() api.Reply {
	delete(a.x.tx.cursors, int(a.r.Key.N))
	return api.Reply{}
}

// do lets the base do the request.
func (a *attempt) do() api.Reply {
	out := a.d.b.Do(a.x.tx.id, a.r)
	a.sure(out.E)
	return out
}

// alone does what is done to a whole collection.
func (a *attempt) alone() api.Reply {
	a.ask(collName(a.r.Coll), lock.X)
	return a.do()
}

func (a *attempt) count() api.Reply {
	a.ask(collName(a.r.Coll), lock.S)
	return a.do()
}

// shape tells plain's error of the request that hangs on no document, and the indexes of its collection.
func (a *attempt) shape(r api.Request) ([]plain.IndexDef, api.Errno) {
	s := a.d.b.Shape()
	_, reply := plain.Do(s, r)
	if e := reply.E; e != api.OK && e != api.ErrEnd {
		return nil, e
	}
	for _, c := range s.Colls {
		if c.Name == r.Coll {
			return c.Indexes, api.OK
		}
	}
	return nil, api.ErrName
}
