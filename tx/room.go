package tx

import (
	"muniment/api"
	"muniment/atom"
	"muniment/sum"
)

// A transaction that is active for long would keep the log from being cut: so its undo data are noted anew,
// in a carry record, when the log is short of room. Kept back is always what these records, the commits
// and a checkpoint need; undoing can go on then, whatever the log's room, group by group.

// kept tells how many bytes of the log a transaction must find.
func (t *transaction) kept() int {
	if t == nil || len(t.steps) == 0 && t.last == 0 {
		return 0
	}
	return 2*recordCost + t.bytes
}

// free tells how many bytes the log has room for.
func (m *Manager) free() int {
	l := m.s.Log()
	return m.s.Disk().Room() - int(l.End()-l.First())
}

// need tells how many bytes of the log are kept back, and what the heaviest group needs that may be undone.
func (m *Manager) need() (bytes, heaviest int) {
	bytes = checkpointCost
	for _, t := range m.active {
		bytes += t.kept()
		heaviest = max(heaviest, t.heaviest)
	}
	return bytes, heaviest
}

// hasRoom tells ErrFull, if the log would lack room, were a group done whose record needs so many bytes at most,
// and whose transaction were later in place of now.
func (m *Manager) hasRoom(g *atom.Group, cost int, now, later *transaction) api.Errno {
	bytes, heaviest := m.need()
	bytes -= now.kept()
	if later != nil {
		// its last record is this one then
		bytes += 2*recordCost + later.bytes
		heaviest = max(heaviest, later.heaviest)
	}
	if cost+bytes <= m.free() && 2*bytes+heaviest <= m.s.Disk().Room() {
		return api.OK
	}
	if _, e := g.Read(0); e == api.ErrState {
		return e
	}
	return api.ErrFull
}

// data tells a checkpoint's data.
func (m *Manager) data() []byte {
	b, _ := sum.Put(make([]byte, 8), 0, 8, m.next)
	return b
}

// oldest tells the first record that undoing what is active needs, and its transaction; 0, if it needs none.
func (m *Manager) oldest() (at uint64, of *transaction) {
	for _, t := range m.active {
		for _, x := range t.steps {
			if len(x.data) > 0 && (at == 0 || x.at < at) {
				at, of = x.at, t
			}
		}
	}
	return at, of
}

// checkpoint lets the log be cut ahead of what undoing needs.
func (m *Manager) checkpoint() api.Errno {
	at, _ := m.oldest()
	return m.s.Checkpoint(at, m.data())
}

// enough tells whether a log that is cut at an LSN has room for undoing all, and half of its room besides.
func (m *Manager) enough(at uint64) bool {
	bytes, heaviest := m.need()
	used, room := int(m.s.Log().End()-at), m.s.Disk().Room()
	return bytes+heaviest <= room-used && used <= room/2
}

// Checkpoint lets the log be cut as far as nothing is needed of it.
func (m *Manager) Checkpoint() api.Errno {
	if m == nil {
		return api.ErrState
	}
	if bytes, _ := m.need(); m.free() < bytes+checkpointCost {
		return m.Renew()
	}
	return m.checkpoint()
}

// Renew makes all pages certain, notes anew what is to be undone of the transactions that keep the log long, the
// oldest first, and lets the log be cut ahead of that. No more is noted than must be: if the device dies ahead
// of the cut, and again, the room that is kept back for it must not be used twice.
func (m *Manager) Renew() api.Errno {
	if m == nil {
		return api.ErrState
	}
	if e := m.s.Clean(); e != api.OK {
		return e
	}
	start := m.s.Log().End()
	for {
		at, t := m.oldest()
		if t == nil || at >= start || t.bytes > mostCarried || m.enough(at) {
			return m.checkpoint()
		}
		lsn, e := m.s.Log().Append(api.Rec{Kind: carryKind, Tx: t.id, Prev: t.last, Data: t.carry()})
		if e != api.OK {
			return e
		}
		t.last = lsn
		for i := range t.steps {
			t.steps[i].at = lsn
		}
	}
}

// carry tells a transaction's steps as bytes: of each its LSN, the one ahead, the number of its undo data's bytes, and they.
func (t *transaction) carry() []byte {
	var out []byte
	for _, x := range t.steps {
		for _, n := range [...]uint64{x.lsn, x.prev, uint64(len(x.data))} {
			at := len(out)
			out, _ = sum.Put(append(out, make([]byte, 8)...), at, 8, n)
		}
		out = append(out, x.data...)
	}
	return out
}

// carried takes a transaction's steps out of a carry record.
func (t *transaction) carried(b []byte, at uint64) api.Errno {
	t.steps, t.bytes = nil, 0
	for len(b) > 0 {
		lsn, _ := sum.Get(b, 0, 8)
		prev, _ := sum.Get(b, 8, 8)
		n, e := sum.Get(b, 16, 8)
		if e != api.OK || n > uint64(len(b)-24) {
			return api.ErrForm
		}
		t.push(step{lsn: lsn, prev: prev, at: at, data: b[24 : 24+n : 24+n]}, 0)
		b = b[24+n:]
	}
	return api.OK
}
