package tree

import (
	"slices"

	"rootstock/api"
)

// check goes through all leaves, in order: that pages are such as may be in a
// tree, and come once, the stack asks for.
func check(p Pages, root int) api.Errno {
	deep, last, sound := 0, "", true
	e := on(p).leaves(root, "", func(way []step) bool {
		twigs, l := way[:len(way)-1], way[len(way)-1].node.items
		sound = (deep == 0 || deep == len(way)) && between(twigs, last, l[0].Key)
		deep, last = len(way), l[len(l)-1].Key
		return sound
	})
	if !sound {
		return api.ErrBroken
	}
	return e
}

// between tells whether the children by which the way goes to a leaf have keys
// that may be: none is above the leaf's first one; and that of the lowest child
// that is not a first one, below which the leaf is the first, is above last, the
// greatest one ahead of it.
func between(twigs []step, last, first string) bool {
	turned := false
	for _, s := range slices.Backward(twigs) {
		kid := s.node.kids[s.at]
		if kid.Key > first || !turned && s.at > 0 && kid.Key <= last {
			return false
		}
		turned = turned || s.at > 0
	}
	return true
}
