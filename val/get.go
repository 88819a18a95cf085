package val

import (
	"unicode/utf8"

	"muniment/api"
)

// reader reads a value's bytes; it throws the first fault.
type reader struct {
	b  []byte
	at int
}

// Get tells the value whose bytes b are.
func Get(b []byte) (v api.Val, e api.Errno) {
	defer func() {
		if x := recover(); x != nil {
			v, e = api.Val{}, caught(x)
		}
	}()
	demand(len(b) <= api.MaxDoc, api.ErrBig)
	r := &reader{b: b}
	v = r.value(0)
	demand(r.at == len(b), api.ErrForm)
	return v, api.OK
}

// take tells the next n bytes, in new memory.
func (r *reader) take(n int) []byte {
	demand(n <= len(r.b)-r.at, api.ErrForm)
	out := append(make([]byte, 0, n), r.b[r.at:r.at+n]...)
	r.at += n
	return out
}

// number reads a number of n bytes, the lowest first.
func (r *reader) number(n int) uint64 {
	demand(n <= len(r.b)-r.at, api.ErrForm)
	var out uint64
	for i := range n {
		out |= uint64(r.b[r.at+i]) << (8 * i)
	}
	r.at += n
	return out
}

// count reads a number of values or fields.
func (r *reader) count() int {
	n := int(r.number(1))
	demand(n <= api.MaxFields, api.ErrLimit)
	return n
}

// value reads a value that stands within depth Lists and Docs.
func (r *reader) value(depth int) api.Val {
	v := api.Val{Kind: int(r.number(1))}
	switch v.Kind {
	case api.Null:
	case api.Bool:
		v.N = r.number(1)
		demand(v.N <= 1, api.ErrForm)
	case api.Int, api.Float:
		v.N = r.number(8)
	case api.Text, api.Bytes:
		v.B = r.take(int(r.number(2)))
		demand(v.Kind == api.Bytes || utf8.Valid(v.B), api.ErrForm)
	case api.List:
		demand(depth < api.MaxDepth, api.ErrDeep)
		for range r.count() {
			v.L = append(v.L, r.value(depth+1))
		}
	case api.Doc:
		demand(depth < api.MaxDepth, api.ErrDeep)
		r.fields(&v, depth)
	default:
		demand(false, api.ErrForm)
	}
	return v
}

// fields reads the fields of the Doc v.
func (r *reader) fields(v *api.Val, depth int) {
	names := map[string]struct{}{}
	for i := range r.count() {
		name := string(r.take(int(r.number(1))))
		names[name] = struct{}{}
		demand(goodName(name) && len(names) == i+1, api.ErrForm)
		v.F = append(v.F, api.Field{Name: name, V: r.value(depth + 1)})
	}
}
