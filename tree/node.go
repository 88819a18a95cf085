package tree

import (
	"bytes"
	"slices"

	"muniment/api"
	"muniment/atom"
	"muniment/page"
)

const (
	leafKind  = 203
	innerKind = 204
	childSize = 2
	slot      = 4   // bytes that a cell needs beside its own
	room      = 486 // bytes that cells and slots of a page may have
	mostDeep  = 40  // pages between a root and a leaf: no tree is deeper
	mostValue = 128
)

// node is a page of a tree. A leaf's cell is the key's number of bytes, the key and the value;
// another one's is the number of a page and the least key that may be below it, empty in the first cell.
type node struct {
	n     int
	page  []byte
	leaf  bool
	cells [][]byte
}

// load reads page n as a node.
func load(r atom.Reader, n int) (node, api.Errno) {
	if r == nil {
		return node{}, api.ErrState
	}
	p, e := r.Read(n)
	if e != api.OK {
		return node{}, e
	}
	kind, _, _, _, e := page.Head(p)
	if e != api.OK || kind != leafKind && kind != innerKind {
		return node{}, api.ErrForm
	}
	cells, _ := page.Cells(p)
	out := node{n: n, page: p, leaf: kind == leafKind, cells: cells}
	for _, c := range cells {
		if out.leaf && (len(c) < 2 || len(c) < 1+int(c[0])) || len(c) < childSize {
			return node{}, api.ErrForm
		}
	}
	return out, api.OK
}

// entry tells the cell of an entry.
func entry(key, value []byte) []byte {
	out := append(make([]byte, 0, 1+len(key)+len(value)), byte(len(key)))
	return append(append(out, key...), value...)
}

// branch tells the cell of a page below.
func branch(child int, least []byte) []byte {
	out := append(make([]byte, 0, childSize+len(least)), byte(child), byte(child>>8))
	return append(out, least...)
}

// key tells the i-th key of a leaf; of another node the least key below its i-th page.
func (x *node) key(i int) []byte {
	c := x.cells[i]
	if x.leaf {
		return c[1 : 1+c[0]]
	}
	return c[childSize:]
}

// value tells the i-th value of a leaf.
func (x *node) value(i int) []byte { return x.cells[i][1+x.cells[i][0]:] }

// child tells the i-th page below.
func (x *node) child(i int) int { return int(x.cells[i][0]) | int(x.cells[i][1])<<8 }

// seek tells the first place whose key is not below key, and whether it is there.
func (x *node) seek(key []byte) (int, bool) {
	low, high := 0, len(x.cells)
	for low < high {
		mid := (low + high) / 2
		if bytes.Compare(x.key(mid), key) < 0 {
			low = mid + 1
		} else {
			high = mid
		}
	}
	return low, low < len(x.cells) && bytes.Equal(x.key(low), key)
}

// toward tells the place of the page below which key is, or would be.
func (x *node) toward(key []byte) int {
	i, ok := x.seek(key)
	if !ok && i > 0 {
		i--
	}
	return i
}

// size tells how many bytes cells need in a page.
func size(cells [][]byte) int {
	n := 0
	for _, c := range cells {
		n += slot + len(c)
	}
	return n
}

// laid tells the page with the node's cells, laid anew.
func (x *node) laid() ([]byte, api.Errno) {
	kind := innerKind
	if x.leaf {
		kind = leafKind
	}
	p, e := page.New(kind)
	for i, c := range x.cells {
		if p, e = page.Insert(p, i, c); e != api.OK {
			return nil, e
		}
	}
	return p, e
}

// save writes the node, laid anew.
func (x *node) save(g *atom.Group) api.Errno {
	p, e := x.laid()
	if e != api.OK {
		return e
	}
	x.page = p
	return g.Write(x.n, p)
}

// insert puts a cell in, and writes the page; false, if it has no room there (the node has the cell all the same).
func (x *node) insert(g *atom.Group, i int, c []byte) (bool, api.Errno) {
	x.cells = slices.Insert(x.cells, i, c)
	p, e := page.Insert(x.page, i, c)
	return x.wrote(g, p, e)
}

// replace puts a cell in place of another one, likewise.
func (x *node) replace(g *atom.Group, i int, c []byte) (bool, api.Errno) {
	x.cells[i] = c
	p, e := page.Replace(x.page, i, c)
	return x.wrote(g, p, e)
}

// remove takes a cell out, and writes the page.
func (x *node) remove(g *atom.Group, i int) api.Errno {
	x.cells = slices.Delete(x.cells, i, i+1)
	p, e := page.Remove(x.page, i)
	_, e = x.wrote(g, p, e)
	return e
}

// wrote writes a page that was changed, unless it had no room.
func (x *node) wrote(g *atom.Group, p []byte, e api.Errno) (bool, api.Errno) {
	switch e {
	case api.OK:
		x.page = p
		return true, g.Write(x.n, p)
	case api.ErrFull:
		return false, api.OK
	}
	return false, e
}

// step is a node on a way down, and the place at which the way goes on.
type step struct {
	node
	at int
}

// descend tells the way from the root to the leaf where key is, or would be.
func descend(r atom.Reader, root int, choose func(x *node) int) ([]step, api.Errno) {
	var way []step
	for n := root; len(way) < mostDeep; {
		x, e := load(r, n)
		if e != api.OK {
			return nil, e
		}
		if x.leaf {
			return append(way, step{node: x}), api.OK
		}
		if len(x.cells) == 0 {
			return nil, api.ErrForm
		}
		i := choose(&x)
		way = append(way, step{node: x, at: i})
		n = x.child(i)
	}
	return nil, api.ErrForm
}

// towardKey chooses the way to a key.
func towardKey(key []byte) func(x *node) int {
	return func(x *node) int { return x.toward(key) }
}

// leftmost and rightmost choose the way to the first and the last leaf.
func leftmost(*node) int    { return 0 }
func rightmost(x *node) int { return len(x.cells) - 1 }
