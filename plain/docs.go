package plain

import (
	"bytes"
	"slices"

	"muniment/api"
	"muniment/key"
	"muniment/val"
)

// idField is the field that holds a document's id.
const idField = "_id"

// Key tells a document's key.
func Key(doc api.Val) ([]byte, api.Errno) {
	if e := val.Good(doc); e != api.OK {
		return nil, e
	}
	if doc.Kind != api.Doc {
		return nil, api.ErrForm
	}
	id, ok := val.Path(doc, idField)
	if !ok {
		return nil, api.ErrKey
	}
	return key.Of(id)
}

// Entry tells a document's entry in an index; false, if it has none.
func Entry(x IndexDef, doc api.Val) ([]byte, bool, api.Errno) {
	if _, e := Key(doc); e != api.OK {
		return nil, false, e
	}
	v, ok := val.Path(doc, x.Path)
	if !ok {
		return nil, false, api.OK
	}
	id, _ := val.Path(doc, idField)
	out, e := key.All([]api.Val{v, id}, make([]bool, 2))
	if e != api.OK {
		return nil, false, e
	}
	return out, true, api.OK
}

// Entries tells all documents' entries in an index, rising.
func Entries(c Coll, x IndexDef) ([][]byte, api.Errno) {
	var out [][]byte
	for _, doc := range c.Docs {
		entry, ok, e := Entry(x, doc)
		if e != api.OK {
			return nil, e
		}
		if ok {
			out = append(out, entry)
		}
	}
	slices.SortFunc(out, bytes.Compare)
	return out, api.OK
}

// place tells the place of the document with a key among documents that rise by keys, and whether it is there.
func place(docs []api.Val, k []byte) (int, bool) {
	return slices.BinarySearchFunc(docs, k, func(doc api.Val, k []byte) int {
		other, _ := Key(doc)
		return bytes.Compare(other, k)
	})
}

// clashes tells whether one of others has the same value in an index as doc.
func clashes(others []api.Val, x IndexDef, doc api.Val) bool {
	v, ok := val.Path(doc, x.Path)
	if !ok {
		return false
	}
	return slices.ContainsFunc(others, func(other api.Val) bool {
		w, ok := val.Path(other, x.Path)
		c, _ := val.Compare(v, w)
		return ok && c == 0
	})
}

// twice tells whether two documents have the same value in an index: the same key then.
func twice(docs []api.Val, x IndexDef) bool {
	var keys [][]byte
	for _, doc := range docs {
		if v, ok := val.Path(doc, x.Path); ok {
			k, _ := key.Of(v)
			keys = append(keys, k)
		}
	}
	slices.SortFunc(keys, bytes.Compare)
	return len(slices.CompactFunc(keys, bytes.Equal)) < len(keys)
}

// row is a document, what it is sorted by, and the value that bounds are held against.
type row struct {
	k   []byte
	v   api.Val
	doc api.Val
}

// byKey tells documents with their ids; they rise by keys.
func byKey(docs []api.Val) []row {
	var out []row
	for _, doc := range docs {
		id, _ := val.Path(doc, idField)
		out = append(out, row{v: id, doc: doc})
	}
	return out
}

// byEntry tells the documents that have an entry in an index, by rising entries.
func byEntry(docs []api.Val, x IndexDef) []row {
	var out []row
	for _, doc := range docs {
		if k, ok, _ := Entry(x, doc); ok {
			v, _ := val.Path(doc, x.Path)
			out = append(out, row{k: k, v: v, doc: doc})
		}
	}
	slices.SortFunc(out, func(a, b row) int { return bytes.Compare(a.k, b.k) })
	return out
}

// copied tells a state in new memory.
func copied(s State) State {
	var out State
	for _, c := range s.Colls {
		x := Coll{Name: c.Name, Indexes: slices.Clone(c.Indexes)}
		for _, doc := range c.Docs {
			x.Docs = append(x.Docs, copiedVal(doc))
		}
		out.Colls = append(out.Colls, x)
	}
	return out
}

// copiedVal tells a value in new memory; each list ends where its room does.
func copiedVal(v api.Val) api.Val {
	out := api.Val{Kind: v.Kind, N: v.N}
	if n := len(v.B); n > 0 {
		out.B = slices.Clone(v.B)[:n:n]
	}
	for _, x := range v.L {
		out.L = append(out.L, copiedVal(x))
	}
	for _, f := range v.F {
		out.F = append(out.F, api.Field{Name: f.Name, V: copiedVal(f.V)})
	}
	return out
}

// Equal tells whether two states are the same.
func Equal(a, b State) bool {
	return slices.EqualFunc(a.Colls, b.Colls, func(a, b Coll) bool {
		return a.Name == b.Name && slices.Equal(a.Indexes, b.Indexes) && slices.EqualFunc(a.Docs, b.Docs, equalVal)
	})
}

// equalVal tells whether two values are the same.
func equalVal(a, b api.Val) bool {
	return a.Kind == b.Kind && a.N == b.N && bytes.Equal(a.B, b.B) && slices.EqualFunc(a.L, b.L, equalVal) &&
		slices.EqualFunc(a.F, b.F, func(a, b api.Field) bool { return a.Name == b.Name && equalVal(a.V, b.V) })
}
