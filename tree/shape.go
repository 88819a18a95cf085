package tree

import (
	"bytes"
	"slices"

	"muniment/api"
	"muniment/atom"
	"muniment/space"
)

// Pages tells all pages of a tree, the root first.
func Pages(r atom.Reader, root int) ([]int, api.Errno) {
	var out []int
	var walk func(n, depth int) api.Errno
	walk = func(n, depth int) api.Errno {
		x, e := load(r, n)
		if e != api.OK {
			return e
		}
		if depth > mostDeep || len(out) >= api.MaxPages {
			return api.ErrForm
		}
		out = append(out, n)
		for i := range x.cells {
			if x.leaf {
				break
			}
			if e := walk(x.child(i), depth+1); e != api.OK {
				return e
			}
		}
		return api.OK
	}
	if e := walk(root, 0); e != api.OK {
		return nil, e
	}
	return out, api.OK
}

// Depth tells how many pages lie on the way from the root to a leaf.
func Depth(r atom.Reader, root int) (int, api.Errno) {
	way, e := descend(r, root, leftmost)
	return len(way), e
}

// checker goes through a tree and looks for faults.
type checker struct {
	r     atom.Reader
	met   map[int]struct{}
	depth int
}

// visit looks at page n, whose keys must be at least low, and below high, if that is not nil.
func (c *checker) visit(n, depth int, low, high []byte) api.Errno {
	x, e := load(c.r, n)
	if e != api.OK {
		return e
	}
	if _, ok := c.met[n]; ok || x.leaf != (depth == c.depth) || depth > 1 && len(x.cells) == 0 {
		return api.ErrForm
	}
	c.met[n] = struct{}{}
	for i := range x.cells {
		k := x.key(i)
		if !x.leaf && i == 0 {
			if len(k) > 0 {
				return api.ErrForm
			}
			k = low
		}
		if bytes.Compare(k, low) < 0 || high != nil && bytes.Compare(k, high) >= 0 || i > 0 && bytes.Compare(x.key(i-1), k) >= 0 {
			return api.ErrForm
		}
		if x.leaf {
			continue
		}
		end := high
		if i+1 < len(x.cells) {
			end = x.key(i + 1)
		}
		if e := c.visit(x.child(i), depth+1, k, end); e != api.OK {
			return e
		}
	}
	return api.OK
}

// Check tells whether a tree is in order.
func Check(r atom.Reader, root int) api.Errno {
	depth, e := Depth(r, root)
	if e != api.OK {
		return e
	}
	c := &checker{r: r, met: map[int]struct{}{}, depth: depth}
	return c.visit(root, 1, nil, nil)
}

// emptier frees pages, as many as are left to free.
type emptier struct {
	g    *atom.Group
	left int
}

// free frees page n and all below it, from its end on; false, if there are too many.
func (m *emptier) free(n, depth int) (bool, api.Errno) {
	x, e := load(m.g, n)
	if e != api.OK {
		return false, e
	}
	if done, e := m.below(&x, depth); !done || e != api.OK {
		return false, e
	}
	if m.left == 0 {
		return false, api.OK
	}
	m.left--
	return true, space.Free(m.g, n)
}

// below frees all pages below a node; it writes the node, if some of them stay.
func (m *emptier) below(x *node, depth int) (bool, api.Errno) {
	if x.leaf {
		return true, api.OK
	}
	if depth > mostDeep {
		return false, api.ErrForm
	}
	before := len(x.cells)
	for len(x.cells) > 0 {
		done, e := m.free(x.child(len(x.cells)-1), depth+1)
		if e != api.OK {
			return false, e
		}
		if !done {
			break
		}
		x.cells = x.cells[:len(x.cells)-1]
	}
	if len(x.cells) == before {
		return before == 0, api.OK
	}
	return len(x.cells) == 0, x.save(m.g)
}

// Empty frees at most so many pages of a tree but for its root; true, if the root alone is left, without entries.
func Empty(g *atom.Group, root, most int) (bool, api.Errno) {
	x, e := load(g, root)
	switch {
	case e != api.OK:
		return false, e
	case most < 1:
		return false, api.ErrArg
	}
	m := &emptier{g: g, left: most}
	if done, e := m.below(&x, 0); !done || e != api.OK {
		return false, e
	}
	if x.leaf && len(x.cells) == 0 {
		return true, api.OK
	}
	empty := node{n: root, leaf: true}
	if e := empty.save(g); e != api.OK {
		return false, e
	}
	return true, api.OK
}

// each calls do with the way to each page that leads to leaves, till that tells true.
func each(r atom.Reader, root int, do func(way []step) (bool, api.Errno)) (bool, api.Errno) {
	depth, e := Depth(r, root)
	if e != api.OK {
		return false, e
	}
	var walk func(way []step, n int) (bool, api.Errno)
	walk = func(way []step, n int) (bool, api.Errno) {
		x, e := load(r, n)
		if e != api.OK || x.leaf {
			return false, e
		}
		way = append(slices.Clip(way), step{node: x})
		if len(way) == depth-1 {
			return do(way)
		}
		for i := range x.cells {
			way[len(way)-1].at = i
			if done, e := walk(way, x.child(i)); done || e != api.OK {
				return done, e
			}
		}
		return false, api.OK
	}
	return walk(nil, root)
}

// Join makes two leaves next to one another one, if there are such that have room in one.
func Join(g *atom.Group, root int) (bool, api.Errno) {
	return each(g, root, func(way []step) (bool, api.Errno) {
		x := &way[len(way)-1]
		if len(way) == 1 && len(x.cells) == 1 {
			return true, collapse(g, &x.node)
		}
		for i := range len(x.cells) - 1 {
			if done, e := join(g, way, i); done || e != api.OK {
				return done, e
			}
		}
		return false, api.OK
	})
}

// Move moves the leaf with the greatest number to the lowest free page, if that is lower.
func Move(g *atom.Group, root int) (bool, api.Errno) {
	var parent node
	place, greatest := 0, -1
	if _, e := each(g, root, func(way []step) (bool, api.Errno) {
		x := &way[len(way)-1].node
		for i := range x.cells {
			if n := x.child(i); n > greatest {
				parent, place, greatest = *x, i, n
			}
		}
		return false, api.OK
	}); e != api.OK {
		return false, e
	}
	used, e := space.Used(g)
	if e != api.OK {
		return false, e
	}
	free := 0
	for free < len(used) && used[free] == free {
		free++
	}
	if free >= greatest {
		return false, api.OK
	}
	return true, move(g, &parent, place)
}

// move moves the leaf at a place below parent to the lowest free page.
func move(g *atom.Group, parent *node, place int) api.Errno {
	leaf, e := load(g, parent.child(place))
	if e != api.OK {
		return e
	}
	n, e := space.Alloc(g)
	if e != api.OK {
		return e
	}
	if e := g.Write(n, leaf.page); e != api.OK {
		return e
	}
	if _, e := parent.replace(g, place, branch(n, parent.key(place))); e != api.OK {
		return e
	}
	return space.Free(g, leaf.n)
}
