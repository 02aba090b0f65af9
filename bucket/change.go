package bucket

import (
	"rootstock/api"
	"rootstock/big"
	"rootstock/tree"
)

// change is Pages as trees see them while they are changed. New pages are
// taken at once; what is kept again, or given back, waits until no error can
// come of the rest any more, so that an error leaves all as it was.
type change struct {
	Pages
	made  []int      // pages that were taken
	sets  []api.Page // pages that will be kept again
	gone  []int      // pages that will be given back
	old   map[int]struct{}
	twice bool // whether a page is in the place of two: trees, or a value, share it
}

// write changes a bucket's tree; the bucket then.
func write(p Pages, b Bucket, do func(c *change) (int, api.Errno)) (to Bucket, e api.Errno) {
	e = guard(p, func() api.Errno {
		c := &change{Pages: p, old: map[int]struct{}{}}
		root, e := do(c)
		if e = c.end(e); e == api.OK {
			to = Bucket{Root: root, Seq: b.Seq}
		}
		return e
	})
	return to, e
}

// New takes a page.
func (c *change) New(p api.Page) (int, api.Errno) {
	id, e := c.Pages.New(p)
	if e == api.OK {
		c.made = append(c.made, id)
	}
	return id, e
}

// Run takes pages one behind the other.
func (c *change) Run(l ...api.Page) (int, api.Errno) {
	first, e := c.Pages.Run(l...)
	if e == api.OK {
		for n := range l {
			c.made = append(c.made, first+n)
		}
	}
	return first, e
}

// Set lets a page be kept again.
func (c *change) Set(p api.Page) api.Errno {
	c.touch(p.Id)
	c.sets = append(c.sets, p)
	return api.OK
}

// Free lets pages be given back.
func (c *change) Free(ids ...int) {
	c.touch(ids...)
	c.gone = append(c.gone, ids...)
}

// touch notes that pages change, or go.
func (c *change) touch(ids ...int) {
	for _, id := range ids {
		_, twice := c.old[id]
		c.twice = c.twice || twice
		c.old[id] = struct{}{}
	}
}

// end does what waits, if there was no error; what was taken is given back, if
// there was one.
func (c *change) end(e api.Errno) api.Errno {
	if e == api.OK && c.twice {
		e = api.ErrBroken
	}
	if e != api.OK {
		free(c.Pages, c.made)
		return e
	}
	for _, p := range c.sets {
		if e := c.Pages.Set(p); e != api.OK {
			return e
		}
	}
	free(c.Pages, c.gone)
	return api.OK
}

// free gives pages back, if there are any.
func free(p Pages, ids []int) {
	if len(ids) > 0 {
		p.Free(ids...)
	}
}

// put puts a value, in pages of its own if it is long; the tree's root then.
func put(c *change, b Bucket, key, value string) (int, api.Errno) {
	was, _, e := itemOf(c, b, key, false)
	if e != api.OK {
		return 0, e
	}
	ids, e := idsOf(was)
	if e != api.OK {
		return 0, e
	}
	i := api.Item{Key: key, Value: value, Kind: api.Plain}
	if len(value) > api.MaxInner {
		i.Kind = api.Far
		if i.Value, e = keep(c, value); e != api.OK {
			return 0, e
		}
	}
	root, e := tree.Put(c, b.Root, i)
	c.Free(ids...)
	return root, e
}

// keep puts a value into pages of its own; where it stands then.
func keep(c *change, value string) (string, api.Errno) {
	l, e := big.Lay(value, least, 0)
	if e != api.OK {
		return "", e
	}
	for n := range l {
		l[n].Id = 0 // Run tells where they come to stand
	}
	first, e := c.Run(l...)
	if e != api.OK {
		return "", e
	}
	ref, e := big.Ref(first, len(value))
	if e != api.OK {
		return "", api.ErrBroken // no page of a file
	}
	return ref, api.OK
}

// drop takes an item and pages that go with it out of a bucket; the tree's root
// then.
func drop(c *change, b Bucket, key string, ids []int) (int, api.Errno) {
	root, _, e := tree.Delete(c, b.Root, key)
	c.Free(ids...)
	return root, e
}
