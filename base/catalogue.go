package base

import (
	"bytes"
	"cmp"
	"slices"

	"muniment/api"
	"muniment/atom"
	"muniment/key"
	"muniment/plain"
	"muniment/tree"
)

// The catalogue is a tree. Its keys begin with one of these bytes.
const (
	collMark  = 'c' // a collection's name: the root of its documents
	indexMark = 'i' // a collection's name, 0, an index's name: its root, whether it is unique, its path's beginning
	pathMark  = 'p' // likewise: the rest of its path
	looseMark = 'l' // a root: whether documents' chains hang on its entries
)

const (
	rootSize  = 4
	pathFirst = 100 // bytes of a path that stand beside the root
)

// coll is a collection.
type coll struct {
	name    string
	root    int
	indexes []*index // by rising names
}

// index is what plain says of an index, and the root of its entries.
type index struct {
	plain.IndexDef
	root int
}

// loose is a tree of no collection.
type loose struct {
	root   int
	chains bool // documents' chains hang on its entries
}

// find tells the collection of a name.
func (b *Base) find(name string) (*coll, bool) {
	if b == nil {
		return nil, false
	}
	i, ok := b.place(name)
	if !ok {
		return nil, false
	}
	return b.colls[i], true
}

func (b *Base) place(name string) (int, bool) {
	return slices.BinarySearchFunc(b.colls, name, func(c *coll, name string) int { return cmp.Compare(c.name, name) })
}

// place tells the place of an index among a collection's.
func (c *coll) place(name string) (int, bool) {
	return slices.BinarySearchFunc(c.indexes, name, func(x *index, name string) int { return cmp.Compare(x.Name, name) })
}

// Shape tells the state without documents.
func (b *Base) Shape() plain.State {
	var out plain.State
	if b == nil {
		return out
	}
	for _, c := range b.colls {
		x := plain.Coll{Name: c.name}
		for _, i := range c.indexes {
			x.Indexes = append(x.Indexes, i.IndexDef)
		}
		out.Colls = append(out.Colls, x)
	}
	return out
}

// Root tells the root of a collection's documents, or of its index of that name.
func (b *Base) Root(name, of string) (int, bool) {
	c, ok := b.find(name)
	if !ok {
		return 0, false
	}
	if of == "" {
		return c.root, true
	}
	i, ok := c.place(of)
	if !ok {
		return 0, false
	}
	return c.indexes[i].root, true
}

// Catalogue tells the root of the catalogue's own tree.
func (b *Base) Catalogue() int {
	if b == nil {
		return 0
	}
	return b.catalogue
}

// rootBytes tells a root as bytes, the highest first, so that keys rise as roots do.
func rootBytes(n int) []byte {
	return []byte{byte(n >> 24), byte(n >> 16), byte(n >> 8), byte(n)}
}

// readRoot tells the root at the beginning of bytes.
func readRoot(b []byte) int {
	n := 0
	for i := range min(rootSize, len(b)) {
		n = n<<8 | int(b[i])
	}
	return n
}

func collKey(name string) []byte { return append([]byte{collMark}, name...) }

func indexKey(mark byte, name, of string) []byte {
	return append(append(append([]byte{mark}, name...), 0), of...)
}

func looseKey(root int) []byte { return append([]byte{looseMark}, rootBytes(root)...) }

// flag tells a byte that says yes or no.
func flag(yes bool) byte {
	if yes {
		return 1
	}
	return 0
}

// addIndex puts an index into the catalogue.
func (b *Base) addIndex(g *atom.Group, name string, x *index) api.Errno {
	n := min(len(x.Path), pathFirst)
	value := append(append(rootBytes(x.root), flag(x.Unique)), x.Path[:n]...)
	if _, _, e := tree.Put(g, b.catalogue, indexKey(indexMark, name, x.Name), value); e != api.OK {
		return e
	}
	if n == len(x.Path) {
		return api.OK
	}
	_, _, e := tree.Put(g, b.catalogue, indexKey(pathMark, name, x.Name), []byte(x.Path[n:]))
	return e
}

// takeIndex takes an index out of the catalogue.
func (b *Base) takeIndex(g *atom.Group, name, of string) api.Errno {
	for _, mark := range [...]byte{indexMark, pathMark} {
		if _, _, e := tree.Take(g, b.catalogue, indexKey(mark, name, of)); e != api.OK {
			return e
		}
	}
	return api.OK
}

// addLoose puts a tree of no collection into the catalogue.
func (b *Base) addLoose(g *atom.Group, x loose) api.Errno {
	_, _, e := tree.Put(g, b.catalogue, looseKey(x.root), []byte{flag(x.chains)})
	return e
}

// takeLoose takes a tree of no collection out of the catalogue.
func (b *Base) takeLoose(g *atom.Group, root int) api.Errno {
	_, _, e := tree.Take(g, b.catalogue, looseKey(root))
	return e
}

// loosen notes in memory that a tree belongs to no collection.
func (b *Base) loosen(x loose) {
	b.loose = append(b.loose, x)
	slices.SortFunc(b.loose, func(a, b loose) int { return cmp.Compare(a.root, b.root) })
}

// forget notes in memory that a tree of no collection is there no longer.
func (b *Base) forget(root int) {
	b.loose = slices.DeleteFunc(b.loose, func(x loose) bool { return x.root == root })
	delete(b.raised, root)
	delete(b.dug, root)
}

// load reads the catalogue. Indexes' keys come behind those of collections, and the rests of paths behind both.
func (b *Base) load() api.Errno {
	return b.each(b.catalogue, nil, func(k, v []byte) (bool, api.Errno) {
		switch name, of, _ := bytes.Cut(k[1:], []byte{0}); k[0] {
		case collMark:
			b.colls = append(b.colls, &coll{name: string(k[1:]), root: readRoot(v)})
		case looseMark:
			b.loose = append(b.loose, loose{root: readRoot(k[1:]), chains: v[0] == 1})
		case indexMark:
			if c, ok := b.find(string(name)); ok && len(v) > rootSize {
				def := plain.IndexDef{Name: string(of), Unique: v[rootSize] == 1, Path: string(v[rootSize+1:])}
				c.indexes = append(c.indexes, &index{IndexDef: def, root: readRoot(v)})
			}
		case pathMark:
			if c, ok := b.find(string(name)); ok {
				if i, ok := c.place(string(of)); ok {
					c.indexes[i].Path += string(v)
				}
			}
		}
		return true, api.OK
	})
}

// each goes through a tree's entries from a key on, by rising keys, till do tells false.
func (b *Base) each(root int, from []byte, do func(k, v []byte) (bool, api.Errno)) api.Errno {
	k, v, ok, e := tree.Seek(b.s, root, from)
	for ok && e == api.OK {
		var more bool
		if more, e = do(k, v); !more || e != api.OK {
			return e
		}
		k, v, ok, e = above(b.s, root, k)
	}
	return e
}

// above tells the entry with the least key above after, which may be no key. Of a tree that is out of order
// it tells ErrForm: else going through it might not end.
func above(r atom.Reader, root int, after []byte) (k, v []byte, ok bool, e api.Errno) {
	k, v, ok, e = seekAbove(r, root, after)
	if ok && bytes.Compare(k, after) <= 0 {
		return nil, nil, false, api.ErrForm
	}
	return k, v, ok, e
}

func seekAbove(r atom.Reader, root int, after []byte) (k, v []byte, ok bool, e api.Errno) {
	if len(after) < api.MaxKey {
		return tree.Seek(r, root, append(slices.Clone(after), 0))
	}
	// no key is longer: those above are at least this one, and it is not above itself
	least := after[:api.MaxKey]
	k, v, ok, e = tree.Seek(r, root, least)
	if !ok || e != api.OK || !bytes.Equal(k, least) {
		return k, v, ok, e
	}
	next, ok := key.After(least)
	if !ok {
		return nil, nil, false, api.OK
	}
	return tree.Seek(r, root, next)
}
