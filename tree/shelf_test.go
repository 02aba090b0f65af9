package tree_test

import (
	"maps"
	"slices"
	"strconv"
	"testing"

	"rootstock/api"
	"rootstock/leaf"
	"rootstock/tree"
	"rootstock/twig"
)

// shelf has pages in memory. It notes what is done, and whatever may not be.
type shelf struct {
	pages map[int]api.Page
	mine  map[int]bool
	last  int   // the greatest id so far
	spare []int // ids that may be taken again
	gets  []int
	news  []int
	sets  []int
	gone  []int
	wrong []string
	// The call of that name that is told an error, counted from 1 on.
	name string
	nth  int
	bad  api.Errno
	all  bool // and all behind it
	bare bool // Get tells pages without their Ids
}

// of tells a shelf of pages, none of which is mine.
func of(l ...api.Page) *shelf {
	s := &shelf{pages: map[int]api.Page{}, mine: map[int]bool{}, last: 1}
	for _, p := range l {
		s.pages[p.Id] = p
		s.last = max(s.last, p.Id)
	}
	return s
}

// fails tells whether a call of that name is told the error.
func (s *shelf) fails(name string) bool {
	if name != s.name {
		return false
	}
	s.nth--
	return s.nth == 0 || s.nth < 0 && s.all
}

// note notes that something was done that may not be.
func (s *shelf) note(what string, id int) { s.wrong = append(s.wrong, what+" "+strconv.Itoa(id)) }

func (s *shelf) Get(id int) (api.Page, api.Errno) {
	s.gets = append(s.gets, id)
	if s.fails("Get") {
		return s.pages[id], s.bad // the page stands beside the error, and is none all the same
	}
	p, ok := s.pages[id]
	if !ok {
		return api.Page{}, api.ErrRange
	}
	if s.bare {
		p.Id = 0
	}
	return p, api.OK
}

func (s *shelf) New(p api.Page) (int, api.Errno) {
	if s.fails("New") {
		return 77, s.bad
	}
	id := s.last + 1
	if len(s.spare) > 0 {
		id, s.spare = s.spare[0], s.spare[1:]
	}
	s.last = max(s.last, id)
	p.Id, p.Tx = id, 9
	s.keep(p)
	s.mine[id] = true
	s.news = append(s.news, id)
	return id, api.OK
}

func (s *shelf) Set(p api.Page) api.Errno {
	if s.fails("Set") {
		return s.bad
	}
	if !s.mine[p.Id] {
		s.note("Set of a page that is not mine:", p.Id)
	}
	if slices.Contains(s.gone, p.Id) {
		s.note("Set of a page that was Freed:", p.Id)
	}
	if p.Tx != s.pages[p.Id].Tx {
		s.note("Set with another Tx:", p.Id)
	}
	s.keep(p)
	s.sets = append(s.sets, p.Id)
	return api.OK
}

// keep keeps a page that may be.
func (s *shelf) keep(p api.Page) {
	if _, _, ok := says(p); !ok {
		s.note("no page of a tree:", p.Id)
	}
	s.pages[p.Id] = p
}

func (s *shelf) Mine(id int) bool {
	if _, ok := s.pages[id]; !ok {
		s.note("Mine of no page:", id)
	}
	return s.mine[id]
}

func (s *shelf) Free(ids ...int) {
	if len(ids) == 0 {
		s.note("Free of none:", 0)
	}
	for _, id := range ids {
		if _, ok := s.pages[id]; !ok || slices.Contains(s.gone, id) {
			s.note("Free of no page, or once more:", id)
		}
		s.gone = append(s.gone, id)
	}
}

// begin forgets what was done.
func (s *shelf) begin() {
	s.gets, s.news, s.sets, s.gone, s.wrong = nil, nil, nil, nil, nil
	s.name, s.nth, s.all = "", 0, false
}

// reuse lets the pages that are gone be taken again.
func (s *shelf) reuse() {
	for _, id := range s.gone {
		delete(s.pages, id)
		delete(s.mine, id)
	}
	s.spare = append(s.spare, s.gone...)
	s.begin()
}

// copy tells another shelf alike.
func (s *shelf) copy() *shelf {
	c := *s
	c.pages, c.mine, c.spare = maps.Clone(s.pages), maps.Clone(s.mine), slices.Clone(s.spare)
	c.begin()
	return &c
}

// says tells what a page says; false, if it may not be in a tree.
func says(p api.Page) ([]api.Item, []api.Kid, bool) {
	switch p.Kind {
	case api.Leaf:
		l, e := leaf.Read(p.Body)
		return l, nil, e == api.OK && len(l) > 0
	case api.Twig:
		l, e := twig.Read(p.Body)
		return nil, l, e == api.OK && len(l) > 1
	}
	return nil, nil, false
}

// view is what a tree has, as P1202 tells what a tree is.
type view struct {
	items []api.Item
	ids   []int // as they are come to
	depth int
}

// look looks at the tree of a root, from itself down; false, if it is none.
func (s *shelf) look(root int) (view, bool) {
	if root == 0 {
		return view{}, true
	}
	v, ok := s.below(root, nil)
	sorted := slices.Sorted(slices.Values(v.ids))
	return v, ok && v.depth <= 12 && len(slices.Compact(sorted)) == len(v.ids)
}

// below looks at a page, and all that is below it, behind the pages above it.
func (s *shelf) below(id int, above []int) (view, bool) {
	p, there := s.pages[id]
	items, kids, ok := says(p)
	if !there || !ok || slices.Contains(above, id) {
		return view{}, false
	}
	v := view{items: items, ids: []int{id}, depth: 1}
	for n, k := range kids {
		w, ok := s.below(k.Page, append(slices.Clone(above), id))
		if !ok || n > 0 && (w.depth+1 != v.depth || k.Key <= v.items[len(v.items)-1].Key) || k.Key > least(w.items) {
			return view{}, false
		}
		v = view{append(v.items, w.items...), append(v.ids, w.ids...), w.depth + 1}
	}
	return v, true
}

// least tells the least key of items.
func least(l []api.Item) string {
	return slices.MinFunc(l, func(a, b api.Item) int {
		if a.Key < b.Key {
			return -1
		}
		return 1
	}).Key
}

// item tells a plain item.
func item(key, value string) api.Item { return api.Item{Key: key, Value: value} }

// leafOf tells a leaf of items by their keys, each with a value of its own.
func leafOf(id int, keys ...string) api.Page {
	var l []api.Item
	for _, k := range keys {
		l = append(l, item(k, "is "+k))
	}
	b, _ := leaf.Lay(l...)
	return api.Page{Kind: api.Leaf, Id: id, Tx: 5, Body: b}
}

// twigOf tells a twig.
func twigOf(id int, kids ...api.Kid) api.Page {
	b, _ := twig.Lay(kids...)
	return api.Page{Kind: api.Twig, Id: id, Tx: 5, Body: b}
}

func kid(key string, page int) api.Kid { return api.Kid{Key: key, Page: page} }

// two tells a tree of two levels, its root 9: b, d; f, h; k, m.
func two() *shelf {
	return of(leafOf(4, "b", "d"), leafOf(7, "f", "h"), leafOf(3, "k", "m"), twigOf(9, kid("", 4), kid("e", 7), kid("k", 3)))
}

// three tells a tree of three levels, its root 20. Its second twig's first
// key is below the one that it has above, and below all keys ahead of it.
func three() *shelf {
	return of(
		leafOf(4, "b", "d"), leafOf(7, "f", "h"), twigOf(9, kid("a", 4), kid("e", 7)),
		leafOf(11, "k", "m"), leafOf(12, "p"), leafOf(13, "r", "t", "v"), twigOf(15, kid("", 11), kid("n", 12), kid("r", 13)),
		twigOf(20, kid("a", 9), kid("i", 15)),
	)
}

// outer tells a tree of three levels, its root 20, all of whose inner first
// keys are below the ones above them.
func outer() *shelf {
	return of(
		leafOf(4, "d"), leafOf(7, "f", "h"), twigOf(9, kid("", 4), kid("e", 7)),
		leafOf(11, "k"), leafOf(12, "p"), twigOf(15, kid("a", 11), kid("n", 12)),
		twigOf(20, kid("c", 9), kid("i", 15)),
	)
}

// keysOf tells the keys of items.
func keysOf(l []api.Item) []string {
	var keys []string
	for _, i := range l {
		keys = append(keys, i.Key)
	}
	return keys
}

// put is tree.Put of what may be.
func put(t *testing.T, s *shelf, root int, i api.Item) int {
	t.Helper()
	to, e := tree.Put(s, root, i)
	if e != api.OK {
		t.Fatalf("Put of %q: error %d", i.Key, e)
	}
	return to
}

// drop is tree.Delete of what is there.
func drop(t *testing.T, s *shelf, root int, key string) int {
	t.Helper()
	to, was, e := tree.Delete(s, root, key)
	if e != api.OK || !was {
		t.Fatalf("Delete of %q: %t, error %d", key, was, e)
	}
	return to
}

// check holds an error against the one that is wanted.
func check(t *testing.T, what string, got, want api.Errno) {
	t.Helper()
	if got != want {
		t.Errorf("%s: error %d, not %d", what, got, want)
	}
}

// checkInts holds ids against those that are wanted.
func checkInts(t *testing.T, what string, got []int, want ...int) {
	t.Helper()
	if !slices.Equal(got, want) {
		t.Errorf("%s: %v, not %v", what, got, want)
	}
}

// checkNone holds that nothing was written, nor given back.
func checkNone(t *testing.T, what string, s *shelf) {
	t.Helper()
	if len(s.news)+len(s.sets)+len(s.gone)+len(s.wrong) > 0 {
		t.Errorf("%s: New %v, Set %v, Free %v, wrong %v", what, s.news, s.sets, s.gone, s.wrong)
	}
}

// checkTree holds all that is told of a tree against the items that it is to
// have, and what it is against P1202.
func checkTree(t *testing.T, what string, s *shelf, root int, want ...api.Item) {
	t.Helper()
	v, ok := s.look(root)
	if !ok || !slices.Equal(v.items, want) {
		t.Errorf("%s: the tree has %q, not %q; sound: %t", what, keysOf(v.items), keysOf(want), ok)
	}
	check(t, what+": Check", tree.Check(s, root), api.OK)
	l, e := tree.Items(s, root, "", len(want)+1)
	if !slices.Equal(l, want) || e != api.OK {
		t.Errorf("%s: Items: %q, error %d, not %q", what, keysOf(l), e, keysOf(want))
	}
	ids, e := tree.Ids(s, root)
	check(t, what+": Ids", e, api.OK)
	checkInts(t, what+": Ids", ids, slices.Sorted(slices.Values(v.ids))...)
	if n, e := tree.Depth(s, root); n != v.depth || e != api.OK {
		t.Errorf("%s: Depth: %d, error %d, not %d", what, n, e, v.depth)
	}
	if len(s.wrong) > 0 {
		t.Errorf("%s: %v", what, s.wrong)
	}
}
