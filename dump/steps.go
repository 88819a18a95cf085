package dump

import (
	"bytes"
	"slices"

	"muniment/api"
	"muniment/plain"
)

// idField is the field that holds a document's id.
const idField = "_id"

// find tells the collection of a name.
func find(s plain.State, name string) (plain.Coll, bool) {
	at := slices.IndexFunc(s.Colls, func(c plain.Coll) bool { return c.Name == name })
	if at < 0 {
		return plain.Coll{}, false
	}
	return s.Colls[at], true
}

// sameDocs tells whether two rows of documents are the same.
func sameDocs(a, b []api.Val) bool {
	return plain.Equal(plain.State{Colls: []plain.Coll{{Docs: a}}}, plain.State{Colls: []plain.Coll{{Docs: b}}})
}

// stays tells whether an index of a collection is left as it is on the way from a to b.
func stays(x plain.IndexDef, a, b plain.Coll) bool {
	return slices.Contains(a.Indexes, x) && slices.Contains(b.Indexes, x) && (!x.Unique || sameDocs(a.Docs, b.Docs))
}

// id tells a document's id.
func id(d api.Val) api.Val {
	for _, f := range d.F {
		if f.Name == idField {
			return f.V
		}
	}
	return api.Val{}
}

// Steps tells the requests that turn the state a into c.
func Steps(a, c plain.State) []api.Request {
	var out []api.Request
	add := func(r api.Request) { out = append(out, r) }
	for _, was := range a.Colls {
		now, ok := find(c, was.Name)
		if !ok {
			add(api.Request{Do: plain.Drop, Coll: was.Name})
			continue
		}
		for _, x := range was.Indexes {
			if !stays(x, was, now) {
				add(api.Request{Do: plain.Unindex, Coll: was.Name, Index: x.Name})
			}
		}
		turnDocs(was, now, add)
	}
	for _, now := range c.Colls {
		if _, ok := find(a, now.Name); ok {
			continue
		}
		add(api.Request{Do: plain.Make, Coll: now.Name})
		turnDocs(plain.Coll{Name: now.Name}, now, add)
	}
	for _, now := range c.Colls {
		was, _ := find(a, now.Name)
		for _, x := range now.Indexes {
			if !stays(x, was, now) {
				add(index(now.Name, x))
			}
		}
	}
	// what is told shares nothing with the states
	for i := range out {
		out[i].Doc, out[i].Key = cloned(out[i].Doc), cloned(out[i].Key)
	}
	return out
}

// turnDocs adds what turns the documents of was into those of now, key by key.
func turnDocs(was, now plain.Coll, add func(api.Request)) {
	old, left := was.Docs, now.Docs
	for len(old) > 0 || len(left) > 0 {
		c := first(old, left)
		switch {
		case c < 0:
			add(api.Request{Do: plain.Take, Coll: was.Name, Key: id(old[0])})
		case c > 0 || !sameDocs(old[:1], left[:1]):
			add(api.Request{Do: plain.Put, Coll: was.Name, Doc: left[0]})
		}
		if c <= 0 {
			old = old[1:]
		}
		if c >= 0 {
			left = left[1:]
		}
	}
}

// first tells which of the first documents of two rows, not both empty, has the lower key.
func first(a, b []api.Val) int {
	switch {
	case len(a) == 0:
		return 1
	case len(b) == 0:
		return -1
	}
	x, _ := plain.Key(a[0])
	y, _ := plain.Key(b[0])
	return bytes.Compare(x, y)
}

// cloned tells a value in new memory.
func cloned(v api.Val) api.Val {
	out := api.Val{Kind: v.Kind, N: v.N, B: slices.Clone(v.B)}
	for _, x := range v.L {
		out.L = append(out.L, cloned(x))
	}
	for _, f := range v.F {
		out.F = append(out.F, api.Field{Name: f.Name, V: cloned(f.V)})
	}
	return out
}
