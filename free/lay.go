package free

import (
	"slices"

	"rootstock/api"
	"rootstock/pack"
	"rootstock/page"
)

const each = 113 // ids in a page

// Lay lays ids into pages.
func Lay(ids []int, at []int, tx int) ([]api.Page, api.Errno) {
	if len(at) != Need(len(ids)) {
		return nil, api.ErrArg
	}
	var l []api.Page
	for part := range slices.Chunk(ids, each) {
		p, e := sheet(part, at[len(l):], tx)
		if e != api.OK {
			return nil, e
		}
		l = append(l, p)
	}
	return l, api.OK
}

// sheet tells the page that ids stand in: the first one of at. The next one,
// if there is one, is the one that follows.
func sheet(ids, at []int, tx int) (api.Page, api.Errno) {
	next := 0
	if len(at) > 1 {
		next = at[1]
	}
	var b pack.Put
	b.Half(next).Byte(len(ids))
	for _, id := range ids {
		b.Half(id)
	}
	body, e := b.End()
	p := api.Page{Kind: api.Free, Id: at[0], Tx: tx, Body: body}
	if e != api.OK || !page.Valid(p) {
		return api.Page{}, api.ErrArg
	}
	return p, api.OK
}

// Need tells how many pages ids need.
func Need(n int) int {
	if n <= 0 {
		return 0
	}
	return (n-1)/each + 1 // n and 112 could go beyond the ints
}

// Read reads ids, and the pages that they stand in.
func Read(first int, get func(id int) (api.Page, api.Errno)) ([]int, []int, api.Errno) {
	var pages []api.Page
	var ids, at []int
	for id := first; id != 0; {
		if id < 0 || id >= api.MaxPages || slices.Contains(at, id) {
			return nil, nil, api.ErrBroken
		}
		p, e := ask(get, id)
		if e != api.OK {
			return nil, nil, api.ErrBroken
		}
		next, part, e := open(p.Body)
		if e != api.OK {
			return nil, nil, api.ErrBroken
		}
		pages, ids, at = append(pages, p), append(ids, part...), append(at, id)
		id = next
	}
	if !laid(pages, ids, at) {
		return nil, nil, api.ErrBroken
	}
	return ids, at, api.OK
}

// ask tells what get tells of a page; an error, if get panics, or is nil.
func ask(get func(id int) (api.Page, api.Errno), id int) (p api.Page, e api.Errno) {
	defer func() {
		if recover() != nil {
			p, e = api.Page{}, api.ErrBroken
		}
	}()
	return get(id)
}

// open tells which page comes next, and the ids of a body.
func open(body string) (int, []int, api.Errno) {
	g := pack.From(body)
	next := g.Half()
	var ids []int
	for range g.Byte() {
		ids = append(ids, g.Half())
	}
	return next, ids, g.End()
}

// laid tells whether pages are just what Lay lays of ids at these places. The
// pages laid once more tell all at once: their kind, their places, how many
// ids are in each, and whether one transaction wrote them all.
func laid(pages []api.Page, ids, at []int) bool {
	if len(pages) == 0 {
		return true
	}
	want, e := Lay(ids, at, pages[0].Tx)
	return e == api.OK && slices.Equal(pages, want)
}
