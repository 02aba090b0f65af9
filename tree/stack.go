package tree

import (
	"rootstock/api"
	"rootstock/leaf"
	"rootstock/twig"
)

const deepest = 12 // levels of a tree

// step is a page on the way down, as it was read, and a place in it: that of
// the child by which the way goes on; in a leaf that of the first item whose
// key is not below the one that is looked for.
type step struct {
	page api.Page
	node node
	at   int
}

// atEnd tells whether the place is the last one: of a leaf the one behind all
// items.
func (s step) atEnd() bool {
	if s.node.kind == api.Leaf {
		return s.at == len(s.node.items)
	}
	return s.at == len(s.node.kids)-1
}

// stack is the way from a root down to a leaf.
type stack struct {
	pages Pages
	way   []step
	seen  map[int]struct{} // all pages that were read
}

// on makes an empty stack.
func on(p Pages) *stack {
	return &stack{pages: p, seen: map[int]struct{}{}}
}

// items tells the items of the leaf to which the way leads; none of no way.
func (s *stack) items() []api.Item {
	if len(s.way) == 0 {
		return nil
	}
	return s.way[len(s.way)-1].node.items
}

// read reads a page. In a tree none comes twice: where one does, going on
// might have no end.
func (s *stack) read(id int) (step, api.Errno) {
	if _, twice := s.seen[id]; twice {
		return step{}, api.ErrBroken
	}
	s.seen[id] = struct{}{}
	p, e := s.pages.Get(id)
	if e != api.OK {
		return step{}, e
	}
	n, ok := read(p)
	if !ok {
		return step{}, api.ErrBroken
	}
	p.Id = id
	return step{page: p, node: n}, api.OK
}

// down goes on from a page (0: there is none) down to the leaf of a key.
func (s *stack) down(id int, key string) api.Errno {
	for id != 0 {
		if len(s.way) == deepest {
			return api.ErrBroken
		}
		next, e := s.read(id)
		if e != api.OK {
			return e
		}
		id = 0
		if next.node.kind == api.Leaf {
			next.at, _ = leaf.Find(next.node.items, key)
		} else {
			next.at = twig.Find(next.node.kids, key)
			id = next.node.kids[next.at].Page
		}
		s.way = append(s.way, next)
	}
	return api.OK
}

// leaves goes from leaf to leaf, from that of a key on, as long as see, which
// is told the way, asks for more.
func (s *stack) leaves(root int, from string, see func(way []step) bool) api.Errno {
	e := s.down(root, from)
	for e == api.OK && len(s.way) > 0 && see(s.way) {
		e = s.down(s.turn(), "")
	}
	return e
}

// turn goes up to where the way can go on by a child behind the one by which
// it went; that child. Where there is none, the way is empty.
func (s *stack) turn() int {
	for n := len(s.way) - 1; n >= 0; n-- {
		last := &s.way[n]
		last.at++
		if last.at < len(last.node.kids) { // a leaf has none
			s.way = s.way[:n+1]
			return last.node.kids[last.at].Page
		}
	}
	s.way = nil
	return 0
}
