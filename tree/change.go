package tree

import (
	"bytes"
	"slices"

	"muniment/api"
	"muniment/atom"
	"muniment/space"
)

// sparse is how many bytes of a page's cells are so few that Take looks for a page to join it with.
const sparse = room / 4

// halve tells where cells that have no room in one page are parted. Behind the last entry of a leaf
// others are likely to follow: it goes alone then.
func halve(x *node, put int) int {
	if n := len(x.cells); x.leaf && put == n-1 && size(x.cells[:n-1]) <= room {
		return n - 1
	}
	best, least := 1, -1
	for i := 1; i < len(x.cells); i++ {
		if most := max(size(x.cells[:i]), size(x.cells[i:])); least < 0 || most < least {
			best, least = i, most
		}
	}
	return best
}

// between tells a short key that is above low and not above high.
func between(low, high []byte) []byte {
	for i := range high {
		if i >= len(low) || low[i] != high[i] {
			return high[: i+1 : i+1]
		}
	}
	return high
}

// split parts the node at the way's end, which has more cells than its page has room for; put is the place of the new one.
func split(g *atom.Group, way []step, put int) api.Errno {
	x := &way[len(way)-1].node
	at := halve(x, put)
	right := node{leaf: x.leaf, cells: slices.Clone(x.cells[at:])}
	least := x.key(at)
	if x.leaf {
		least = between(x.key(at-1), least)
	} else {
		right.cells[0] = branch(x.child(at), nil)
	}
	left := node{n: x.n, leaf: x.leaf, cells: x.cells[:at:at]}
	if len(way) == 1 {
		return raise(g, left, right, least)
	}
	n, e := space.Alloc(g)
	if e != api.OK {
		return e
	}
	right.n = n
	if e := save(g, &left, &right); e != api.OK {
		return e
	}
	up := &way[len(way)-2]
	fits, e := up.insert(g, up.at+1, branch(n, least))
	if e == api.OK && !fits {
		e = split(g, way[:len(way)-1], up.at+1)
	}
	return e
}

// raise puts the two halves of a root below it, so that its number stays.
func raise(g *atom.Group, left, right node, least []byte) api.Errno {
	root := node{n: left.n}
	var e api.Errno
	if left.n, e = space.Alloc(g); e != api.OK {
		return e
	}
	if right.n, e = space.Alloc(g); e != api.OK {
		return e
	}
	root.cells = [][]byte{branch(left.n, nil), branch(right.n, least)}
	return save(g, &left, &right, &root)
}

// save writes nodes.
func save(g *atom.Group, nodes ...*node) api.Errno {
	for _, x := range nodes {
		if e := x.save(g); e != api.OK {
			return e
		}
	}
	return api.OK
}

// settle brings the node at the way's end, which has lost a cell, in order again, and those above it.
func settle(g *atom.Group, way []step) api.Errno {
	x := &way[len(way)-1].node
	if len(way) == 1 {
		return collapse(g, x)
	}
	up := &way[len(way)-2]
	if len(x.cells) == 0 {
		return dropChild(g, way[:len(way)-1], up.at)
	}
	single := !x.leaf && len(x.cells) == 1
	if !single && size(x.cells) > sparse {
		return api.OK
	}
	for _, left := range [...]int{up.at, up.at - 1} {
		if done, e := join(g, way[:len(way)-1], left); done || e != api.OK {
			return e
		}
	}
	if single {
		return borrow(g, up)
	}
	return api.OK
}

// dropChild frees a page without cells, and takes it out of the one above it, which is at the way's end.
func dropChild(g *atom.Group, way []step, at int) api.Errno {
	up := &way[len(way)-1]
	if e := space.Free(g, up.child(at)); e != api.OK {
		return e
	}
	if at == 0 && len(up.cells) > 1 {
		if fits, e := up.replace(g, 1, branch(up.child(1), nil)); e != api.OK || !fits {
			return e
		}
	}
	if e := up.remove(g, at); e != api.OK {
		return e
	}
	return settle(g, way)
}

// collapse makes a root that leads to one page alone what that page is; one that leads nowhere is a leaf.
func collapse(g *atom.Group, root *node) api.Errno {
	for !root.leaf && len(root.cells) == 1 {
		below, e := load(g, root.child(0))
		if e != api.OK {
			return e
		}
		if e := space.Free(g, below.n); e != api.OK {
			return e
		}
		below.n = root.n
		if e := below.save(g); e != api.OK {
			return e
		}
		*root = below
	}
	if !root.leaf && len(root.cells) == 0 {
		root.leaf = true
		return root.save(g)
	}
	return api.OK
}

// together tells the cells of the pages at places left and left + 1 below x, as one page has them.
func together(x *node, left int, a, b *node) [][]byte {
	out := slices.Clone(a.cells)
	if !b.leaf && len(b.cells) > 0 {
		out = append(out, branch(b.child(0), x.key(left+1)))
		return append(out, b.cells[1:]...)
	}
	return append(out, b.cells...)
}

// join makes the pages at places left and left + 1 below the way's end one, if they have room in one.
func join(g *atom.Group, way []step, left int) (bool, api.Errno) {
	x := &way[len(way)-1]
	if left < 0 || left+1 >= len(x.cells) {
		return false, api.OK
	}
	a, e := load(g, x.child(left))
	if e != api.OK {
		return false, e
	}
	b, e := load(g, x.child(left+1))
	if e != api.OK {
		return false, e
	}
	cells := together(&x.node, left, &a, &b)
	if size(cells) > room || a.leaf != b.leaf {
		return false, api.OK
	}
	a.cells = cells
	if e := a.save(g); e != api.OK {
		return false, e
	}
	return true, dropChild(g, way, left+1)
}

// borrow gives the page at up's place, which leads to one page alone, a second one of a page beside it,
// if the least keys that change have room in up; each page beside it leads to several: it has no room for one more.
func borrow(g *atom.Group, up *step) api.Errno {
	x, e := load(g, up.child(up.at))
	if e != api.OK {
		return e
	}
	from, moved := up.at+1, up.at+1
	if from == len(up.cells) {
		from, moved = up.at-1, up.at
	}
	if from < 0 {
		return api.OK
	}
	other, e := load(g, up.child(from))
	if e != api.OK || len(other.cells) < 3 {
		return e
	}
	least := up.key(moved)
	if from > up.at {
		x.cells = append(x.cells, branch(other.child(0), least))
		least = bytes.Clone(other.key(1))
		other.cells = append([][]byte{branch(other.child(1), nil)}, other.cells[2:]...)
	} else {
		end := len(other.cells) - 1
		x.cells = [][]byte{branch(other.child(end), nil), branch(x.child(0), least)}
		least = bytes.Clone(other.key(end))
		other.cells = other.cells[:end]
	}
	if fits, e := up.replace(g, moved, branch(up.child(moved), least)); !fits || e != api.OK {
		return e
	}
	return save(g, &x, &other)
}
