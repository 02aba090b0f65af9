package tree

import (
	"slices"

	"rootstock/api"
)

// change is a put or a delete under way. New pages are taken first, and the
// old ones are let alone until no error can come of that any more.
type change struct {
	stack *stack
	key   string     // that is put, or deleted
	made  []int      // pages that were taken
	sets  []api.Page // pages that will be kept again
	gone  []int      // pages that will be given back
}

// group is what comes into the place of a page, or of two side by side.
type group struct {
	node  node
	old   []api.Page // of none, where there was no tree
	at    int        // the place of the first one among its parent's children
	atEnd bool       // whether it grew at its end
}

// do puts a node into the place of the leaf to which the way leads; the new
// root.
func (c *change) do(root int, n node) (int, api.Errno) {
	to, e := c.up(root, n)
	if e != api.OK {
		free(c.stack.pages, c.made) // nothing hangs on them
		return 0, e
	}
	for _, p := range c.sets {
		if e := c.stack.pages.Set(p); e != api.OK {
			return 0, e
		}
	}
	free(c.stack.pages, c.gone)
	return to, api.OK
}

// up goes up from the leaf, and changes each page that is to change; the new
// root. It goes up to the root in any case: above a page that stays as it is
// there may be one whose first child's key is above the one that is put.
func (c *change) up(root int, n node) (int, api.Errno) {
	way, changed := c.stack.way, true
	for ; len(way) > 1; way = way[:len(way)-1] {
		here, above := way[len(way)-1], way[len(way)-2]
		kids := slices.Clone(above.node.kids)
		if changed {
			g, e := c.group(n, here, above)
			if e != api.OK {
				return 0, e
			}
			if kids, e = c.kids(g, above.node.kids); e != api.OK {
				return 0, e
			}
		}
		if kids[0].Key > c.key {
			kids[0].Key = "" // the key stands below it, or has gone with the child ahead of it
		}
		n, changed = ofKids(kids), !slices.Equal(kids, above.node.kids)
	}
	if !changed {
		return root, api.OK
	}
	g := group{node: n}
	for _, top := range way {
		g.old, g.atEnd = []api.Page{top.page}, top.atEnd()
	}
	return c.top(g)
}

// top puts a group into the place of the root; the new root.
func (c *change) top(g group) (int, api.Errno) {
	if g.node.kind == api.Twig && g.node.count() < g.node.least() {
		c.gone = append(c.gone, g.old[0].Id)
		return g.node.kids[0].Page, api.OK
	}
	kids, e := c.keep(g)
	for e == api.OK && len(kids) > 1 {
		kids, e = c.keep(group{node: ofKids(kids)})
	}
	if e != api.OK || len(kids) == 0 {
		return 0, e
	}
	return kids[0].Page, api.OK
}

// group tells what comes into the place of a page: a node, alone or together
// with the page beside it. One that shrank goes with one beside it if a page
// has room for both; a twig with too few children does so in any case.
func (c *change) group(n node, here, above step) (group, api.Errno) {
	alone := group{node: n, old: []api.Page{here.page}, at: above.at, atEnd: here.atEnd()}
	if n.count() == 0 || n.count() >= here.node.count() || 2*n.size() > api.Body {
		return alone, api.OK
	}
	best := alone
	for _, at := range []int{above.at - 1, above.at + 1} {
		if at < 0 || at >= len(above.node.kids) {
			continue
		}
		g, e := c.both(n, here, above, at)
		switch {
		case e != api.OK:
			return group{}, e
		case g.node.fits():
			return g, api.OK
		case n.count() < n.least():
			best = g
		}
	}
	return best, api.OK
}

// both tells what comes into the place of a page and of the one beside it, its
// parent's child at a place.
func (c *change) both(n node, here, above step, at int) (group, api.Errno) {
	kids := above.node.kids
	beside, e := c.stack.read(kids[at].Page)
	switch {
	case e != api.OK:
		return group{}, e
	case beside.node.kind != n.kind:
		return group{}, api.ErrBroken
	case at < above.at:
		return group{node: beside.node.join(n, kids[above.at].Key), old: []api.Page{beside.page, here.page}, at: at}, api.OK
	}
	return group{node: n.join(beside.node, kids[at].Key), old: []api.Page{here.page, beside.page}, at: above.at}, api.OK
}

// kids tells a twig's children, with those that come of a group in the place
// of the ones that it takes.
func (c *change) kids(g group, old []api.Kid) ([]api.Kid, api.Errno) {
	with, e := c.keep(g)
	if e != api.OK {
		return nil, e
	}
	if len(with) > 0 {
		with[0].Key = old[g.at].Key
	}
	return slices.Concat(old[:g.at], with, old[g.at+len(g.old):]), api.OK
}

// keep puts a group into pages, as many as it needs: the old ones of it that
// may be kept again, and new ones behind them; the children that they are.
func (c *change) keep(g group) ([]api.Kid, api.Errno) {
	parts := g.node.parts(g.atEnd)
	var mine []api.Page
	for _, p := range g.old {
		if len(mine) < len(parts) && c.stack.pages.Mine(p.Id) {
			mine = append(mine, p)
		} else {
			c.gone = append(c.gone, p.Id)
		}
	}
	var kids []api.Kid
	for at, part := range parts {
		body, e := part.lay()
		if e != api.OK {
			return nil, api.ErrBroken // what was read does not rise from page to page
		}
		id := 0
		if at < len(mine) {
			id = c.again(mine[at], body)
		} else if id, e = c.take(part.kind, body); e != api.OK {
			return nil, e
		}
		kids = append(kids, api.Kid{Key: part.key(), Page: id})
	}
	return kids, api.OK
}

// again tells that a page will be kept again; its id.
func (c *change) again(p api.Page, body string) int {
	p.Body = body
	c.sets = append(c.sets, p)
	return p.Id
}

// take takes a new page; its id.
func (c *change) take(kind int, body string) (int, api.Errno) {
	id, e := c.stack.pages.New(api.Page{Kind: kind, Body: body})
	if e != api.OK {
		return 0, e
	}
	c.made = append(c.made, id)
	return id, api.OK
}
