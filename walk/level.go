package walk

import (
	"rootstock/api"
	"rootstock/leaf"
	"rootstock/tree"
	"rootstock/twig"
)

// level is a page on the way down, as it was read: a twig's children or a
// leaf's items; and a place in it: that of the child by which the way goes on,
// or that of the item.
type level struct {
	kids  []api.Kid
	items []api.Item
	at    int
}

// read reads a page of a tree. A leaf of no items, a twig of less than two
// children is none.
func read(p tree.Pages, id int) (level, api.Errno) {
	page, e := p.Get(id)
	if e != api.OK {
		return level{}, e
	}
	var l level
	least := 1
	switch page.Kind {
	case api.Leaf:
		l.items, e = leaf.Read(page.Body)
	case api.Twig:
		l.kids, e = twig.Read(page.Body)
		least = 2
	}
	if e != api.OK || l.count() < least {
		return level{}, api.ErrBroken
	}
	return l, api.OK
}

// count tells how many places there are.
func (l level) count() int { return len(l.kids) + len(l.items) }

// first tells the first place.
func (l level) first() int { return 0 }

// last tells the last place.
func (l level) last() int { return l.count() - 1 }

// ahead tells the place by which a key is come to from the front: that of the
// child below which it stands; in a leaf the one ahead of the first item whose
// key is not below it.
func (l level) ahead(key string) int {
	if len(l.kids) > 0 {
		return twig.Find(l.kids, key)
	}
	at, _ := leaf.Find(l.items, key)
	return at - 1
}

// child tells the page of the child at the place: 0 of a leaf.
func (l level) child() int {
	if len(l.kids) == 0 {
		return 0
	}
	return l.kids[l.at].Page
}
