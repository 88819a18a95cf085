package desk

import (
	"bytes"

	"muniment/api"
	"muniment/build"
	"muniment/key"
	"muniment/lock"
	"muniment/plain"
	"muniment/val"
)

// The room of an answer: wire.PutReply's body.
const (
	answerRoom = 12000
	answerHead = 10
	docHead    = 2
)

// collName tells the name of a collection's lock.
func collName(coll string) string { return "c" + coll }

// entryName tells the name of an entry's lock; of a document's key, if index is empty.
func entryName(coll, index string, entry []byte) string {
	return "e" + coll + "\x00" + index + "\x00" + string(entry)
}

// endName tells the name of the lock of an index's end.
func endName(coll, index string) string { return "f" + coll + "\x00" + index }

// nextName tells the name of the lock of the next one of an entry.
func (a *attempt) nextName(index string, entry []byte) string {
	k, _, ok, e := a.d.b.Next(a.r.Coll, index, entry)
	a.sure(e)
	if !ok {
		return endName(a.r.Coll, index)
	}
	return entryName(a.r.Coll, index, k)
}

// askEntry and askNext ask for an entry, and for its next one.
func (a *attempt) askEntry(index string, entry []byte, mode int) {
	a.ask(entryName(a.r.Coll, index, entry), mode)
}

func (a *attempt) askNext(index string, entry []byte, mode int) {
	a.ask(a.nextName(index, entry), mode)
}

// at tells the document of a key, as it is by now.
func (a *attempt) at(k []byte) (api.Val, bool) {
	d, ok, e := a.d.b.At(a.r.Coll, k)
	a.sure(e)
	return d, ok
}

func (a *attempt) get() api.Reply {
	a.ask(collName(a.r.Coll), lock.IS)
	if _, e := a.shape(a.r); e != api.OK {
		return api.Reply{E: e}
	}
	k, _ := key.Of(a.r.Key)
	if _, ok := a.at(k); ok {
		a.askEntry("", k, lock.S)
	} else {
		a.askNext("", k, lock.S)
	}
	return a.do()
}

func (a *attempt) take() api.Reply {
	a.ask(collName(a.r.Coll), lock.IX)
	indexes, e := a.shape(a.r)
	if e != api.OK {
		return api.Reply{E: e}
	}
	k, _ := key.Of(a.r.Key)
	doc, ok := a.at(k)
	if !ok {
		a.askNext("", k, lock.S)
		return a.do()
	}
	a.askEntry("", k, lock.X)
	a.askNext("", k, lock.X)
	for _, x := range indexes {
		if entry, ok, _ := plain.Entry(x, doc); ok {
			a.askEntry(x.Name, entry, lock.X)
			a.askNext(x.Name, entry, lock.X)
		}
	}
	return a.do()
}

// put does Put and Add.
func (a *attempt) put() api.Reply {
	a.ask(collName(a.r.Coll), lock.IX)
	indexes, e := a.shape(a.r)
	if e != api.OK {
		return api.Reply{E: e}
	}
	k, _ := plain.Key(a.r.Doc)
	old, ok := a.at(k)
	switch {
	case !ok:
		a.askNext("", k, lock.X)
		a.askEntry("", k, lock.X)
	case a.r.Do == plain.Add:
		a.askEntry("", k, lock.S)
		return a.do()
	default:
		a.askEntry("", k, lock.X)
	}
	for _, x := range indexes {
		a.turn(x, k, old)
	}
	return a.do()
}

// turn asks for what changes of an index, if the request's document takes the place of old.
func (a *attempt) turn(x plain.IndexDef, k []byte, old api.Val) {
	was, _, _ := plain.Entry(x, old)
	now, _, _ := plain.Entry(x, a.r.Doc)
	if bytes.Equal(was, now) {
		return
	}
	if was != nil {
		a.askEntry(x.Name, was, lock.X)
		a.askNext(x.Name, was, lock.X)
	}
	if now == nil {
		return
	}
	if x.Unique {
		a.askSame(x, now[:len(now)-len(k)], now)
	}
	a.askNext(x.Name, now, lock.X)
	a.askEntry(x.Name, now, lock.X)
}

// askSame asks for the least entry that has a value, but the one of the document itself.
func (a *attempt) askSame(x plain.IndexDef, value, own []byte) {
	for after := value; ; {
		k, _, ok, e := a.d.b.Next(a.r.Coll, x.Name, after)
		a.sure(e)
		if !ok || !bytes.HasPrefix(k, value) {
			return
		}
		if !bytes.Equal(k, own) {
			a.askEntry(x.Name, k, lock.S)
			return
		}
		after = k
	}
}

// index starts a build, steps it, and publishes it at last.
func (a *attempt) index() api.Reply {
	j := a.x.job
	if j.build == nil {
		a.ask(collName(a.r.Coll), lock.IS)
		if _, e := a.shape(a.r); e != api.OK {
			return api.Reply{E: e}
		}
		x, e := build.Start(a.d.b, a.r.Coll, plain.IndexDef{Name: a.r.Index, Path: a.r.Path, Unique: a.r.Unique})
		if a.sure(e); e != api.OK {
			return api.Reply{E: e}
		}
		j.build = x
		a.later()
	}
	if !j.built {
		done, e := j.build.Step()
		if a.sure(e); e != api.OK {
			return api.Reply{E: e}
		}
		j.built = done
		a.later()
	}
	a.ask(collName(a.r.Coll), lock.X)
	return api.Reply{E: a.checked(j.build.Publish())}
}

// row is an entry of a range, and its document.
type row struct {
	entry []byte
	doc   api.Val
}

// place tells the value, or the id, by which an entry stands where it does; false, if the entry is none of a document.
func (a *attempt) place(entry []byte) (api.Val, bool) {
	if a.r.Index == "" {
		v, e := key.Back(entry)
		return v, e == api.OK
	}
	l, e := key.Parts(entry, make([]bool, 2))
	if e != api.OK {
		return api.Val{}, false
	}
	return l[0], true
}

// first tells the first entry that may lie in the request's range: above last, or not below Low.
func (a *attempt) first(last []byte) (entry []byte, doc api.Val, ok bool) {
	if last == nil && a.r.Low.Kind != 0 {
		// entries of an index go on behind their values' keys; a key that is too long is sought from the beginning on
		last, _ = key.Of(a.r.Low)
		if a.r.Index == "" {
			if doc, ok = a.at(last); ok {
				return last, doc, true
			}
		}
	}
	entry, doc, ok, e := a.d.b.Next(a.r.Coll, a.r.Index, last)
	a.sure(e)
	return entry, doc, ok
}

// rows tells the first n entries of the request's range above last, and asks for them, and for the one behind the range.
func (a *attempt) rows(last []byte, n int) []row {
	var out []row
	entry, doc, ok := a.first(last)
	for ok && len(out) < n {
		v, good := a.place(entry)
		low, _ := val.Compare(v, a.r.Low)
		high, _ := val.Compare(v, a.r.High)
		if good && a.r.High.Kind != 0 && high > 0 && (a.r.Low.Kind == 0 || low >= 0) {
			break
		}
		if good && (a.r.Low.Kind == 0 || low >= 0) {
			a.askEntry(a.r.Index, entry, lock.S)
			if a.r.Index != "" {
				k, _ := plain.Key(doc)
				a.askEntry("", k, lock.S)
			}
			out = append(out, row{entry: entry, doc: doc})
		}
		var e api.Errno
		entry, doc, ok, e = a.d.b.Next(a.r.Coll, a.r.Index, entry)
		a.sure(e)
	}
	switch {
	case len(out) == n:
	case ok:
		a.askEntry(a.r.Index, entry, lock.S)
	default:
		a.ask(endName(a.r.Coll, a.r.Index), lock.S)
	}
	return out
}

// ranged tells the documents of the request's range above last, as many as an answer has room for;
// the last entry that is told, and whether there may be more.
func (a *attempt) ranged(last []byte, n int) (reply api.Reply, to []byte, more bool) {
	rows := a.rows(last, n)
	room := answerRoom - answerHead
	for _, w := range rows {
		size, _ := val.Size(w.doc)
		if room -= docHead + size; room < 0 {
			break
		}
		reply.Docs = append(reply.Docs, w.doc)
		to = w.entry
	}
	reply.N = len(reply.Docs)
	return reply, to, reply.N == n || reply.N < len(rows)
}

// asFind asks for the collection, and tells plain's error of the range.
func (a *attempt) asFind() api.Errno {
	a.ask(collName(a.r.Coll), lock.IS)
	r := a.r
	r.Do = plain.Find
	_, e := a.shape(r)
	return e
}

func (a *attempt) find() api.Reply {
	if e := a.asFind(); e != api.OK {
		return api.Reply{E: e}
	}
	out, _, _ := a.ranged(nil, a.r.N)
	return out
}

func (a *attempt) open() api.Reply {
	if e := a.asFind(); e != api.OK {
		return api.Reply{E: e}
	}
	out, to, more := a.ranged(nil, a.r.N)
	if more {
		a.x.cursors++
		out.Cursor = a.x.cursors
		a.x.tx.cursors[out.Cursor] = &cursor{r: a.r, last: to}
	}
	return out
}

func (a *attempt) next() api.Reply {
	c, n, number := a.cursor(), a.r.N, int(a.r.Key.N)
	a.r = c.r
	a.ask(collName(a.r.Coll), lock.IS)
	out, to, more := a.ranged(c.last, n)
	if more {
		c.last, out.Cursor = to, number
	} else {
		delete(a.x.tx.cursors, number)
	}
	return out
}
