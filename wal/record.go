package wal

import (
	"muniment/api"
	"muniment/sum"
)

const (
	mostBody = 1 << 20 // bytes of a record's body
	ahead    = 8       // bytes ahead of a body: its number of bytes, and the sum
	mostKind = 9
)

// good tells whether r is a good record.
func good(r api.Rec) bool {
	if r.Kind < 1 || r.Kind > mostKind {
		return false
	}
	for _, c := range r.Changes {
		if c.Page < 0 || c.Page >= api.MaxPages || c.At < 0 || c.At > api.PageSize || len(c.B) > api.PageSize-c.At {
			return false
		}
		if c.Whole && (c.At != 0 || len(c.B) != api.PageSize) {
			return false
		}
	}
	return true
}

// varint puts n behind out.
func varint(out []byte, n uint64) []byte {
	for ; n >= 128; n >>= 7 {
		out = append(out, byte(n)|128)
	}
	return append(out, byte(n))
}

// body tells the bytes of a good record's body; of one that is too big, so many that this is seen.
func body(r api.Rec) []byte {
	out := []byte{byte(r.Kind)}
	for _, n := range [...]uint64{r.Tx, r.Prev, r.Next, uint64(len(r.Data))} {
		out = varint(out, n)
	}
	if len(r.Data) > mostBody {
		return r.Data
	}
	out = append(out, r.Data...)
	out = varint(out, uint64(len(r.Changes)))
	for _, c := range r.Changes {
		if len(out) > mostBody {
			break
		}
		out = varint(varint(out, uint64(c.Page)), uint64(c.At))
		whole := byte(0)
		if c.Whole {
			whole = 1
		}
		out = varint(append(out, whole), uint64(len(c.B)))
		out = append(out, c.B...)
	}
	return out
}

// low puts n in so many bytes behind out, the lowest first.
func low(out []byte, n uint64, size int) []byte {
	for i := range size {
		out = append(out, byte(n>>(8*i)))
	}
	return out
}

// check tells the sum of an LSN and a body.
func check(lsn uint64, body []byte) uint32 {
	return sum.More(sum.Of(low(make([]byte, 0, 8), lsn, 8)), body)
}

// Bytes tells a record's bytes at that LSN.
func Bytes(r api.Rec, lsn uint64) ([]byte, api.Errno) {
	if !good(r) {
		return nil, api.ErrArg
	}
	b := body(r)
	if len(b) > mostBody {
		return nil, api.ErrBig
	}
	out := make([]byte, 0, ahead+len(b))
	out = low(low(out, uint64(len(b)), 4), uint64(check(lsn, b)), 4)
	return append(out, b...), api.OK
}

// noRecord is thrown by a cursor where no record's parts stand.
type noRecord struct{}

// cursor reads a record's parts.
type cursor struct {
	b  []byte
	at int
}

// octet takes a byte.
func (c *cursor) octet() uint64 {
	if c.at >= len(c.b) {
		panic(noRecord{})
	}
	c.at++
	return uint64(c.b[c.at-1])
}

// varint takes a number, as few digits as will do.
func (c *cursor) varint() uint64 {
	var n uint64
	for shift := 0; ; shift += 7 {
		d := c.octet()
		if shift == 63 && d > 1 || d == 0 && shift > 0 {
			panic(noRecord{})
		}
		n |= d & 127 << shift
		if d < 128 {
			return n
		}
	}
}

// bytes takes a number of bytes and they, in new memory.
func (c *cursor) bytes() []byte {
	n := c.varint()
	if n > uint64(len(c.b)-c.at) {
		panic(noRecord{})
	}
	if n == 0 {
		return nil
	}
	out := append(make([]byte, 0, n), c.b[c.at:c.at+int(n)]...)
	c.at += int(n)
	return out
}

// size takes a number that is no more than most.
func (c *cursor) size(most int) int {
	n := c.varint()
	if n > uint64(most) {
		panic(noRecord{})
	}
	return int(n)
}

// changes takes a record's changes.
func (c *cursor) changes() []api.Change {
	var out []api.Change
	for left := c.varint(); left > 0; left-- {
		x := api.Change{Page: c.size(api.MaxPages - 1), At: c.size(api.PageSize)}
		whole := c.octet()
		x.Whole, x.B = whole == 1, c.bytes()
		if whole > 1 {
			panic(noRecord{})
		}
		out = append(out, x)
	}
	return out
}

// parse reads a body.
func parse(b []byte) (r api.Rec, ok bool) {
	defer func() {
		if recover() != nil {
			r, ok = api.Rec{}, false
		}
	}()
	c := &cursor{b: b}
	r.Kind = int(c.octet())
	for i, take := range [...]func() uint64{c.varint, c.varint, c.varint} {
		*[...]*uint64{&r.Tx, &r.Prev, &r.Next}[i] = take()
	}
	r.Data, r.Changes = c.bytes(), c.changes()
	if c.at != len(b) || !good(r) {
		return api.Rec{}, false
	}
	return r, true
}

// Body reads the record whose bytes at that LSN stand in b from at on.
func Body(b []byte, at int, lsn uint64) (r api.Rec, next int, e api.Errno) {
	if at < 0 || at > len(b) {
		return api.Rec{}, 0, api.ErrArg
	}
	rest := b[at:]
	if len(rest) < ahead {
		return api.Rec{}, 0, api.ErrForm
	}
	n, _ := sum.Get(rest, 0, 4)
	s, _ := sum.Get(rest, 4, 4)
	if n > mostBody || n > uint64(len(rest)-ahead) {
		return api.Rec{}, 0, api.ErrForm
	}
	inner := rest[ahead : ahead+n : ahead+n]
	if uint64(check(lsn, inner)) != s {
		return api.Rec{}, 0, api.ErrForm
	}
	r, ok := parse(inner)
	if !ok {
		return api.Rec{}, 0, api.ErrForm
	}
	return r, at + ahead + int(n), api.OK
}
