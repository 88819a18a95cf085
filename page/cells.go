package page

import (
	"muniment/api"
)

// setSlot says where the i-th cell begins and how many bytes it has.
func setSlot(p []byte, i, at, size int) {
	lay(p, slotsAt+slot*i, 2, uint64(at))
	lay(p, slotsAt+slot*i+2, 2, uint64(size))
}

// relaid tells the page laid out anew.
func (h *head) relaid(p []byte) []byte {
	out := make([]byte, api.PageSize)
	copy(out, p[:h.slotsEnd()])
	h.low = api.PageSize
	for i := range h.count {
		at, size := cellAt(p, i)
		h.low -= size
		copy(out[h.low:h.low+size:h.low+size], p[at:at+size])
		setSlot(out, i, h.low, size)
	}
	h.write(out)
	return out
}

// push lays c's bytes so that they end at low, and tells the slot i of them.
func (h *head) push(p []byte, i int, c []byte) {
	h.low -= len(c)
	copy(p[h.low:h.low+len(c):h.low+len(c)], c)
	setSlot(p, i, h.low, len(c))
	h.write(p)
}

// Insert tells p with c as its i-th cell.
func Insert(p []byte, i int, c []byte) ([]byte, api.Errno) {
	h, ok := open(p)
	switch {
	case !ok:
		return nil, api.ErrForm
	case i < 0 || i > h.count:
		return nil, api.ErrArg
	case h.free(p)-slot < len(c):
		return nil, api.ErrFull
	}
	out := append(make([]byte, 0, api.PageSize), p...)
	if h.low-h.slotsEnd() < len(c)+slot {
		out = h.relaid(p)
	}
	from, end := slotsAt+slot*i, h.slotsEnd()
	copy(out[from+slot:end+slot], out[from:end])
	h.count++
	h.push(out, i, c)
	return out, api.OK
}

// Remove tells p without its i-th cell.
func Remove(p []byte, i int) ([]byte, api.Errno) {
	h, ok := open(p)
	switch {
	case !ok:
		return nil, api.ErrForm
	case i < 0 || i >= h.count:
		return nil, api.ErrArg
	}
	out := append(make([]byte, 0, api.PageSize), p...)
	from, end := slotsAt+slot*i, h.slotsEnd()
	copy(out[from:end-slot], out[from+slot:end])
	clear(out[end-slot : end])
	h.count--
	if h.count == 0 {
		h.low = api.PageSize
	}
	h.write(out)
	return out, api.OK
}

// Replace tells p with c in place of its i-th cell.
func Replace(p []byte, i int, c []byte) ([]byte, api.Errno) {
	h, ok := open(p)
	switch {
	case !ok:
		return nil, api.ErrForm
	case i < 0 || i >= h.count:
		return nil, api.ErrArg
	}
	at, size := cellAt(p, i)
	if len(c) > size && h.free(p) < len(c)-size {
		return nil, api.ErrFull
	}
	out := append(make([]byte, 0, api.PageSize), p...)
	if len(c) <= size {
		copy(out[at:at+len(c)], c)
		setSlot(out, i, at, len(c))
		return out, api.OK
	}
	setSlot(out, i, h.low, 0)
	if h.low-h.slotsEnd() < len(c) {
		out = h.relaid(out)
	}
	h.push(out, i, c)
	return out, api.OK
}

// Compact tells p laid out anew.
func Compact(p []byte) ([]byte, api.Errno) {
	h, ok := open(p)
	if !ok {
		return nil, api.ErrForm
	}
	return h.relaid(p), api.OK
}
