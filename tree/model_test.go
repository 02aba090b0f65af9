package tree_test

import (
	"maps"
	"math/bits"
	"slices"
	"strconv"
	"strings"
	"testing"

	"rootstock/api"
	"rootstock/disk"
	"rootstock/free"
	"rootstock/leaf"
	"rootstock/page"
	"rootstock/store"
	"rootstock/tree"
)

// draws are numbers that are as good as drawn, but the same each time.
type draws struct{ x uint32 }

// below tells one from 0 on below n.
func (r *draws) below(n int) int {
	r.x = r.x*1664525 + 1013904223
	return int(r.x>>8) % n
}

// item tells an item of one of some keys: of a sort the values are long, of
// another one the keys are, of the last one all are as long as may be.
func (r *draws) item(keys, sort int) api.Item {
	n := r.below(keys)
	key, value := strconv.Itoa(n), r.below(1+sort%2*96)
	switch sort {
	case 2, 3:
		key += strings.Repeat("k", n*7%(33-len(key)))
	case 4:
		key, value = strings.Repeat("k", 32-len(key))+key, 96-r.below(2)*r.below(97)
	}
	return api.Item{Key: key, Value: strings.Repeat(string([]byte{byte(n)}), value), Kind: n % 3}
}

// most tells how deep a tree of n items may be.
func most(n int) int { return 1 + bits.Len(uint(n)) }

// checkDepth holds how deep a tree is against how many items it has.
func checkDepth(t *testing.T, what string, s tree.Pages, root, n int) {
	t.Helper()
	if d, e := tree.Depth(s, root); d > most(n) || e != api.OK {
		t.Errorf("%s: %d levels for %d items, error %d", what, d, n, e)
	}
}

// step does a put, if it is to, or a delete, to a tree and to a list.
func step(t *testing.T, what string, s *shelf, root int, puts bool, i api.Item, l []api.Item) (int, []api.Item) {
	t.Helper()
	before := maps.Clone(s.pages)
	v, _ := s.look(root)
	s.begin()
	to := root
	if puts {
		to, l = put(t, s, root, i), leaf.Put(l, i)
	} else {
		less, there := leaf.Drop(l, i.Key)
		at, was, e := tree.Delete(s, root, i.Key)
		if e != api.OK || was != there {
			t.Errorf("%s: Delete: %t, error %d", what, was, e)
		}
		to, l = at, less
	}
	checkPages(t, what, s, before, v.ids, to)
	return to, l
}

// settle lets pages of this transaction that are gone be taken again, and
// tells with dead which of the others are gone.
func (s *shelf) settle(dead map[int]bool) {
	for _, id := range s.gone {
		switch {
		case s.mine[id]:
			delete(s.pages, id)
			delete(s.mine, id)
			s.spare = append(s.spare, id)
		case dead[id]:
			s.note("Freed once more:", id)
		default:
			dead[id] = true
		}
	}
}

// commit ends the transaction: nothing is mine any more, and what is gone may be taken again.
func (s *shelf) commit(dead map[int]bool) {
	for id := range dead {
		delete(s.pages, id)
		s.spare = append(s.spare, id)
	}
	slices.Sort(s.spare)
	clear(dead)
	s.mine = map[int]bool{}
}

// Whatever is put and deleted, in whatever order, through transactions one
// behind the other: the tree has what a list has, the tree of the transaction
// ahead stays as it was, and no page is lost.
func TestP1204AnyOrder(t *testing.T) {
	deep, none := 0, 0
	for seed := range 25 {
		r, dead := &draws{uint32(seed)}, map[int]bool{}
		s, root, safe := of(), 0, 0
		var l, old []api.Item
		for n := range 400 {
			what := "seed " + strconv.Itoa(seed) + ", step " + strconv.Itoa(n)
			puts := r.below(100) < []int{85, 50, 15, 0}[n/50%4] // it grows, and goes down to few items or none
			root, l = step(t, what, s, root, puts, r.item(20<<(seed%5), seed/5%5), l)
			s.settle(dead)
			checkTree(t, what, s, root, l...)
			checkTree(t, what+": the old one", s, safe, old...)
			checkDepth(t, what, s, root, len(l))
			if r.below(20) == 0 {
				s.commit(dead)
				safe, old = root, l
			}
			v, _ := s.look(root)
			deep = max(deep, v.depth)
			if root == 0 {
				none++
			}
			if len(s.pages) != len(v.ids)+len(dead) {
				t.Errorf("%s: %d pages, of which the tree has %d, and %d are gone", what, len(s.pages), len(v.ids), len(dead))
			}
			if t.Failed() {
				return
			}
		}
	}
	if deep < 4 || none < 25 {
		t.Errorf("no tree came to more than %d levels, and there was none but %d times", deep, none)
	}
}

// orders tells n numbers in some orders.
func orders(n int) map[string][]int {
	up, fro, mixed := []int{}, []int{}, []int{}
	for i := range n {
		up = append(up, i)
		mixed = append(mixed, i*617%n)
		if i%2 == 0 {
			fro = append(fro, i/2)
		} else {
			fro = append(fro, n-1-i/2)
		}
	}
	down := slices.Clone(up)
	slices.Reverse(down)
	in := slices.Clone(fro)
	slices.Reverse(in)
	return map[string][]int{"rising": up, "falling": down, "from both ends": fro, "from the middle": in, "mixed": mixed}
}

// numbered tells an item by its number.
func numbered(n, size int) api.Item {
	return item(strconv.Itoa(10000+n), strings.Repeat("v", size))
}

// No order of keys leaves many pages nearly empty, neither while they are put
// nor while they are deleted: a file has but so many.
func TestP1204PagesAreUsed(t *testing.T) {
	for _, size := range []int{0, 30, 96} {
		for in, puts := range orders(1000) {
			s, root := of(), 0
			for _, n := range puts {
				root = put(t, s, root, numbered(n, size))
				s.reuse()
			}
			what := strconv.Itoa(size) + " bytes, put " + in
			bound := 2.0
			if in == "rising" {
				bound = 1.02
			}
			checkShare(t, what, s, root, 1000, size, bound)
			for out, gone := range orders(1000) {
				c, root := s.copy(), root
				for k, n := range gone[:990] {
					root = drop(t, c, root, numbered(n, size).Key)
					c.reuse()
					if k%100 == 99 {
						checkShare(t, what+", deleted "+out, c, root, 999-k, size, 2)
					}
				}
			}
		}
	}
}

// checkShare holds how many pages a tree of n items has against how many it
// would have if each had as much as it has room for.
func checkShare(t *testing.T, what string, s *shelf, root, n, size int, bound float64) {
	t.Helper()
	v, ok := s.look(root)
	if !ok || len(v.items) != n {
		t.Fatalf("%s: no tree of %d items", what, n)
	}
	best, fit := 0, 231/(10+size)
	for level := n; level > 1 || best == 0; fit = 231 / 9 {
		level = (level + fit - 1) / fit
		best += level
	}
	if share := float64(len(v.ids)) / float64(best); share > bound {
		t.Errorf("%s: %d pages for %d items, where %d would do", what, len(v.ids), n, best)
	}
}

// A page is cut when it has no room for one byte more, and not ahead of that.
func TestP1204FullPages(t *testing.T) {
	s, root := of(), 0
	root = put(t, s, root, item("a", strings.Repeat("v", 96)))
	root = put(t, s, root, item("b", strings.Repeat("v", 96)))
	root = put(t, s, root, item("c", strings.Repeat("v", 21)))
	if n, _ := tree.Depth(s, root); n != 1 || len(s.pages[root].Body) != api.Body {
		t.Errorf("%d levels, %d bytes", n, len(s.pages[root].Body))
	}
	root = put(t, s, root, item("c", strings.Repeat("v", 22)))
	if n, _ := tree.Depth(s, root); n != 2 || len(s.pages) != 3 {
		t.Errorf("%d levels, %d pages", n, len(s.pages))
	}
	root = drop(t, s, root, "a")
	if n, _ := tree.Depth(s, root); n != 1 {
		t.Errorf("%d levels", n)
	}
}

// A delete writes the way down alone where pages beside it are full, and
// reads none beside a leaf that is empty then.
func TestP1204DeleteLeavesOthersAlone(t *testing.T) {
	s, root := of(), 0
	for n := range 200 {
		root = put(t, s, root, numbered(n, 66)) // three in each leaf, nine in each twig or more
	}
	v, _ := s.look(root)
	for n := 60; n < 120; n += 3 {
		c, at := s.copy(), root
		for k := range 3 {
			c.begin()
			c.mine = map[int]bool{}
			at = drop(t, c, at, numbered(n+k, 66).Key)
			news, beside := v.depth, 0
			switch k {
			case 1:
				beside = 2 // it might go with one of them
			case 2:
				news--
			}
			if reads := len(c.gets) - v.depth; len(c.news) != news || len(c.gone) != v.depth || reads > beside {
				t.Errorf("Delete of %d: Get %v, New %v, Freed %v", n+k, c.gets, c.news, c.gone)
			}
		}
	}
}

// file is Pages of a file: what is new stands in it when it is kept.
type file struct {
	*store.Store
	list *free.List
	tx   int
	own  map[int]api.Page
	gone []int
}

func (f *file) Get(id int) (api.Page, api.Errno) {
	if p, ok := f.own[id]; ok {
		return p, api.OK
	}
	return f.Store.Get(id)
}

func (f *file) New(p api.Page) (int, api.Errno) {
	id, e := f.list.Take(1)
	if e == api.OK {
		p.Id, p.Tx = id, f.tx
		f.own[id] = p
	}
	return id, e
}

func (f *file) Set(p api.Page) api.Errno {
	if !page.Valid(p) || p.Tx != f.tx || !f.Mine(p.Id) {
		return api.ErrArg
	}
	f.own[p.Id] = p
	return api.OK
}

func (f *file) Mine(id int) bool {
	_, ok := f.own[id]
	return ok
}

func (f *file) Free(ids ...int) {
	for _, id := range ids {
		if f.Mine(id) {
			delete(f.own, id)
			f.list.Give(0, id)
			f.list.Release(1)
		} else {
			f.gone = append(f.gone, id)
		}
	}
}

// keep ends a transaction: its pages are written, and those that it gave back are free for the next one.
func (f *file) keep(t *testing.T) {
	t.Helper()
	for _, id := range slices.Sorted(maps.Keys(f.own)) {
		check(t, "Put", f.Store.Put(f.own[id]), api.OK)
	}
	f.list.Give(f.tx, f.gone...)
	f.list.Release(f.tx + 1)
	f.tx++
	f.own, f.gone = map[int]api.Page{}, nil
}

// A tree in a file, through transactions, with no room in between: it has what
// a list has, and no page of the file is lost.
func TestP1204OnAFile(t *testing.T) {
	s, e := store.Open(disk.New(0), "f")
	check(t, "Open", e, api.OK)
	f, root := &file{Store: s, list: free.New(3900), tx: 2, own: map[int]api.Page{}}, 0
	r, full := &draws{7}, 0
	var l []api.Item
	for n := range 1200 {
		i := r.item(600, 4)
		switch to, e := tree.Put(f, root, i); e {
		case api.OK:
			root, l = to, leaf.Put(l, i)
		case api.ErrFull: // all is as it was: what goes on is a delete
			full++
			i = l[r.below(len(l))]
			at, was, e := tree.Delete(f, root, i.Key)
			if e == api.ErrFull {
				f.keep(t)
				break
			}
			if !was || e != api.OK {
				t.Fatalf("Delete of %q: %t, error %d", i.Key, was, e)
			}
			root = at
			l, _ = leaf.Drop(l, i.Key)
		default:
			t.Fatalf("Put of %q: error %d", i.Key, e)
		}
		if r.below(9) == 0 {
			f.keep(t)
		}
		checkFile(t, "step "+strconv.Itoa(n), f, root, l)
	}
	if full < 50 {
		t.Errorf("it was full but %d times", full)
	}
}

// checkFile holds a tree in a file against a list, and all of the file's pages to be the tree's, free, or given back.
func checkFile(t *testing.T, what string, f *file, root int, l []api.Item) {
	t.Helper()
	got, e := tree.Items(f, root, "", len(l)+1)
	check(t, what+": Items", e, api.OK)
	check(t, what+": Check", tree.Check(f, root), api.OK)
	ids, e := tree.Ids(f, root)
	check(t, what+": Ids", e, api.OK)
	if !slices.Equal(got, l) || 3900+len(f.gone)+len(ids)+len(f.list.Free()) != f.list.Pages() {
		t.Fatalf("%s: %d items, not %d; of %d pages %d are the tree's, %d free, %d gone", what, len(got), len(l), f.list.Pages(), len(ids), len(f.list.Free()), len(f.gone))
	}
	checkDepth(t, what, f, root, len(l))
}
