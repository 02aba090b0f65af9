package bucket

import (
	"maps"
	"slices"

	"rootstock/api"
	"rootstock/big"
	"rootstock/tree"
	"rootstock/walk"
)

// within tells the item of a bucket within another one.
func within(name string, b Bucket) api.Item {
	return api.Item{Key: name, Value: Lay(b), Kind: api.Within}
}

// itemOf tells the item of a key: ErrKind, if it is one of a value where a
// bucket is meant, or the other way.
func itemOf(p Pages, b Bucket, key string, bucket bool) (api.Item, bool, api.Errno) {
	i, there, e := tree.Get(p, b.Root, key)
	if e == api.OK && there && (i.Kind == api.Within) != bucket {
		e = api.ErrKind
	}
	if e != api.OK {
		return api.Item{}, false, e
	}
	return i, there, api.OK
}

// inner tells the bucket of a name.
func inner(p Pages, b Bucket, name string) (Bucket, api.Errno) {
	i, there, e := itemOf(p, b, name, true)
	switch {
	case e != api.OK:
		return Bucket{}, e
	case !there:
		return Bucket{}, api.ErrNone
	}
	return bucketOf(i)
}

// down tells the buckets on the way along a path, from b on.
func down(p Pages, b Bucket, path []string) ([]Bucket, api.Errno) {
	l := []Bucket{b}
	for n, name := range path {
		in, e := inner(p, l[n], name)
		if e != api.OK {
			return nil, e
		}
		l = append(l, in)
	}
	return l, api.OK
}

// bucketOf tells the bucket that an item of one says.
func bucketOf(i api.Item) (Bucket, api.Errno) {
	b, e := Read(i.Value)
	if e != api.OK {
		return Bucket{}, api.ErrBroken
	}
	return b, api.OK
}

// valueOf tells the value of an item of one.
func valueOf(p Pages, i api.Item) (string, api.Errno) {
	if i.Kind == api.Plain {
		return i.Value, api.OK
	}
	told := api.OK // big.Read tells all errors as one
	value, e := big.Read(i.Value, func(id int) (page api.Page, e api.Errno) {
		page, told = p.Get(id)
		return page, told
	})
	switch {
	case told != api.OK:
		return "", told
	case e != api.OK:
		return "", api.ErrBroken
	}
	return value, api.OK
}

// idsOf tells the pages of its own that the value of an item has.
func idsOf(i api.Item) ([]int, api.Errno) {
	if i.Kind != api.Far {
		return nil, api.OK
	}
	ids, e := big.Ids(i.Value)
	if e != api.OK || ids[len(ids)-1] >= api.MaxPages {
		return nil, api.ErrBroken
	}
	return ids, api.OK
}

// each tells the items of a bucket, from a key on, as long as see asks for more.
func each(p Pages, b Bucket, from string, see func(i api.Item) (bool, api.Errno)) api.Errno {
	w := walk.On(p, b.Root)
	for ok := w.Seek(from); ok; ok = w.Next() {
		i, _ := w.Item()
		if more, e := see(i); e != api.OK || !more {
			return e
		}
	}
	return w.Err()
}

// all tells all pages of a bucket, its values and the buckets within it. These
// wait in a list for their turn: in a damaged file they may be within each
// other without end, until a page comes twice.
func all(p Pages, b Bucket) ([]int, api.Errno) {
	seen := map[int]struct{}{}
	add := func(ids []int, e api.Errno) api.Errno {
		if e != api.OK {
			return e
		}
		for _, id := range ids {
			if _, twice := seen[id]; twice {
				return api.ErrBroken
			}
			seen[id] = struct{}{}
		}
		return api.OK
	}
	for wait := []Bucket{b}; len(wait) > 0; wait = wait[1:] {
		if e := add(tree.Ids(p, wait[0].Root)); e != api.OK {
			return nil, e
		}
		e := each(p, wait[0], "", func(i api.Item) (bool, api.Errno) {
			if i.Kind != api.Within {
				return true, add(idsOf(i))
			}
			in, e := bucketOf(i)
			wait = append(wait, in)
			return true, e
		})
		if e != api.OK {
			return nil, e
		}
	}
	return slices.Sorted(maps.Keys(seen)), api.OK
}
