package key

import (
	"bytes"
	"math"

	"muniment/api"
)

// reader reads values back out of keys; once it has failed it goes on telling nothing.
type reader struct {
	b      []byte
	at     int
	turned bool
	failed bool
}

// next takes a byte, turned back if the key has fallen.
func (r *reader) next() byte {
	if r.at >= len(r.b) {
		r.failed = true
		return 0
	}
	c := r.b[r.at]
	r.at++
	if r.turned {
		c = ^c
	}
	return c
}

// number reads n bytes, the highest first.
func (r *reader) number(n int) uint64 {
	var out uint64
	for range n {
		out = out<<8 | uint64(r.next())
	}
	return out
}

// value reads a value; what it tells of a key that is none is judged by writing it anew.
func (r *reader) value() api.Val {
	switch r.next() {
	case nullClass:
		return api.Val{Kind: api.Null}
	case boolClass:
		return api.Val{Kind: api.Bool, N: uint64(r.next())}
	case numberClass:
		return r.numeric()
	case textClass:
		return api.Val{Kind: api.Text, B: r.escaped()}
	case bytesClass:
		return api.Val{Kind: api.Bytes, B: r.escaped()}
	case listClass:
		return r.list()
	case docClass:
		return r.doc()
	}
	r.failed = true
	return api.Val{}
}

func (r *reader) numeric() api.Val {
	if r.next() == 0 {
		return api.Val{Kind: api.Float, N: r.number(8)}
	}
	bits, rest := unordered(r.number(8)), r.number(2)
	if r.next() == 1 {
		return api.Val{Kind: api.Float, N: bits}
	}
	f := math.Float64frombits(bits)
	if !(f >= -1<<63 && f < 1<<63) {
		r.failed = true
		return api.Val{}
	}
	return api.Val{Kind: api.Int, N: uint64(int64(f)) + rest}
}

// escaped reads bytes up to the two bytes 0 that end them.
func (r *reader) escaped() []byte {
	var out []byte
	for !r.failed {
		c := r.next()
		if c == 0 && r.next() == 0 {
			return out
		}
		out = append(out, c)
	}
	return nil
}

// more tells whether a list or a document goes on.
func (r *reader) more() bool { return r.next() == 1 && !r.failed }

func (r *reader) list() api.Val {
	v := api.Val{Kind: api.List}
	for r.more() {
		v.L = append(v.L, r.value())
	}
	return v
}

func (r *reader) doc() api.Val {
	v := api.Val{Kind: api.Doc}
	for r.more() {
		name := string(r.escaped())
		v.F = append(v.F, api.Field{Name: name, V: r.value()})
	}
	return v
}

// Parts tells the values whose keys stand in b, one behind the other.
func Parts(b []byte, falling []bool) ([]api.Val, api.Errno) {
	if len(b) > api.MaxKey || len(falling) > len(b) {
		return nil, api.ErrKey
	}
	r := &reader{b: b}
	var out []api.Val
	for _, f := range falling {
		r.turned = f
		out = append(out, r.value())
	}
	if r.failed || r.at != len(b) {
		return nil, api.ErrKey
	}
	if again, e := All(out, falling); e != api.OK || !bytes.Equal(again, b) {
		return nil, api.ErrKey
	}
	return out, api.OK
}
