package tree

import (
	"slices"

	"rootstock/api"
	"rootstock/leaf"
	"rootstock/twig"
)

// node is what a page of a tree says: the items of a leaf, or the children of
// a twig.
type node struct {
	kind  int
	items []api.Item
	kids  []api.Kid
}

func ofItems(l []api.Item) node { return node{kind: api.Leaf, items: l} }

func ofKids(l []api.Kid) node { return node{kind: api.Twig, kids: l} }

// read tells what a page says; false, if it can't be one of a tree.
func read(p api.Page) (node, bool) {
	switch p.Kind {
	case api.Leaf:
		l, e := leaf.Read(p.Body)
		n := ofItems(l)
		return n, e == api.OK && n.count() >= n.least()
	case api.Twig:
		l, e := twig.Read(p.Body)
		n := ofKids(l)
		return n, e == api.OK && n.count() >= n.least()
	}
	return node{}, false
}

// lay tells the body of a page that says it.
func (n node) lay() (string, api.Errno) {
	if n.kind == api.Leaf {
		return leaf.Lay(n.items...)
	}
	return twig.Lay(n.kids...)
}

// count tells how many items, or children, there are.
func (n node) count() int { return len(n.items) + len(n.kids) }

// size tells how many bytes they need.
func (n node) size() int {
	if n.kind == api.Leaf {
		return leaf.Size(n.items...)
	}
	return twig.Size(n.kids...)
}

// fits tells whether a page has room for it.
func (n node) fits() bool { return n.size() <= api.Body }

// least tells how many items, or children, a page of a tree has at least.
func (n node) least() int {
	if n.kind == api.Leaf {
		return 1
	}
	return 2
}

// key tells the key of the first item, or child.
func (n node) key() string {
	if n.kind == api.Leaf {
		return n.items[0].Key
	}
	return n.kids[0].Key
}

// join puts the node that stands behind it, as a child of that key, to it.
func (n node) join(behind node, key string) node {
	if n.kind == api.Leaf {
		return ofItems(slices.Concat(n.items, behind.items))
	}
	kids := slices.Concat(n.kids, behind.kids)
	// A first child's own key need not be above those ahead of it, which it
	// is first no more.
	kids[len(n.kids)].Key = key
	return ofKids(kids)
}

// cut cuts it in two ahead of a place.
func (n node) cut(at int) (node, node) {
	if n.kind == api.Leaf {
		return ofItems(n.items[:at]), ofItems(n.items[at:])
	}
	return ofKids(n.kids[:at]), ofKids(n.kids[at:])
}

// parts cuts it into such as fit into a page: none of nothing. Cut from the
// front on, keys that come falling would leave a page to each item, so it is
// cut in the middle; but where it grew at its end, the end alone goes into a
// page of its own, so that keys that come rising leave full pages behind. A
// page has room for any item, and for any six children: no part is empty, and
// no twig is left with less than two.
func (n node) parts(atEnd bool) []node {
	switch {
	case n.count() == 0:
		return nil
	case n.fits():
		return []node{n}
	}
	at := n.middle()
	if atEnd {
		at = n.count() - n.least()
	}
	front, back := n.cut(at)
	return append(front.parts(false), back.parts(false)...)
}

// middle tells the place where to cut it, so that the greater part is as
// small as can be.
func (n node) middle() int {
	best, least := 0, n.size()
	for at := 1; at < n.count(); at++ {
		front, back := n.cut(at)
		if size := max(front.size(), back.size()); size < least {
			best, least = at, size
		}
	}
	return best
}
