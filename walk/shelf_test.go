package walk_test

import (
	"maps"
	"slices"
	"strconv"
	"strings"
	"testing"

	"rootstock/api"
	"rootstock/leaf"
	"rootstock/tree"
	"rootstock/twig"
	"rootstock/walk"
)

// shelf has pages in memory that are read. It notes which ones are.
type shelf struct {
	pages  map[int]api.Page
	gets   []int
	wrong  []string // what else was asked: a cursor writes nothing
	nth    int      // the Get that is told an error, counted from 1 on
	bad    api.Errno
	panics bool // and all behind it panic
}

// of tells a shelf of pages.
func of(l ...api.Page) *shelf {
	s := &shelf{pages: map[int]api.Page{}}
	for _, p := range l {
		s.pages[p.Id] = p
	}
	return s
}

// with tells another shelf, with other pages in the places of theirs.
func (s *shelf) with(l ...api.Page) *shelf {
	c := &shelf{pages: maps.Clone(s.pages)}
	for _, p := range l {
		c.pages[p.Id] = p
	}
	return c
}

func (s *shelf) Get(id int) (api.Page, api.Errno) {
	s.gets = append(s.gets, id)
	s.nth--
	if s.panics && s.nth <= 0 {
		panic("no page")
	}
	if s.nth == 0 {
		return s.pages[id], s.bad // the page stands beside the error, and is none all the same
	}
	p, ok := s.pages[id]
	if !ok {
		return api.Page{}, api.ErrRange
	}
	return p, api.OK
}

func (s *shelf) New(api.Page) (int, api.Errno) {
	s.wrong = append(s.wrong, "New")
	return 0, api.ErrFull
}

func (s *shelf) Set(api.Page) api.Errno {
	s.wrong = append(s.wrong, "Set")
	return api.ErrFull
}

func (s *shelf) Mine(int) bool {
	s.wrong = append(s.wrong, "Mine")
	return true
}

func (s *shelf) Free(...int) { s.wrong = append(s.wrong, "Free") }

// maker is a shelf that takes new pages; an old one is never used again.
type maker struct{ *shelf }

func (m maker) New(p api.Page) (int, api.Errno) {
	p.Id = len(m.pages) + 2
	m.pages[p.Id] = p
	return p.Id, api.OK
}

func (m maker) Mine(int) bool { return false }

func (m maker) Free(...int) {}

// item tells a plain item.
func item(key, value string) api.Item { return api.Item{Key: key, Value: value} }

func kid(key string, page int) api.Kid { return api.Kid{Key: key, Page: page} }

// leafOf tells a leaf of items by their keys, each with a value of its own.
func leafOf(id int, keys ...string) api.Page {
	var l []api.Item
	for n, k := range keys {
		l = append(l, api.Item{Key: k, Value: "is " + k, Kind: (id + n) % 3})
	}
	b, _ := leaf.Lay(l...)
	return api.Page{Kind: api.Leaf, Id: id, Tx: 5, Body: b}
}

// twigOf tells a twig.
func twigOf(id int, kids ...api.Kid) api.Page {
	b, _ := twig.Lay(kids...)
	return api.Page{Kind: api.Twig, Id: id, Tx: 5, Body: b}
}

// raw tells a page of a body as it may not be laid.
func raw(id, kind int, body string) api.Page {
	return api.Page{Kind: kind, Id: id, Tx: 5, Body: body}
}

// two tells a tree of two levels, its root 9.
func two() *shelf {
	return of(leafOf(4, "b", "d"), leafOf(7, "f", "h"), leafOf(3, "k", "m"), twigOf(9, kid("", 4), kid("e", 7), kid("k", 3)))
}

// three tells a tree of three levels, its root 20; some keys of children are
// below the least ones below them, those of first ones also below others.
func three() *shelf {
	return of(
		leafOf(4, "b", "d"), leafOf(7, "f", "h"), twigOf(9, kid("a", 4), kid("e", 7)),
		leafOf(11, "k", "m"), leafOf(12, "p"), leafOf(13, "r", "t", "v"), twigOf(15, kid("", 11), kid("n", 12), kid("r", 13)),
		twigOf(20, kid("b", 9), kid("i", 15)),
	)
}

// full tells a sound tree of so many levels, each twig of two, its root 2.
func full(levels int) *shelf {
	s := of()
	for at := 1; at < 1<<levels; at++ { // as in a heap: below a place are twice it, and one more
		id := at + 1
		if 2*at >= 1<<levels {
			s.pages[id] = leafOf(id, name(at, levels))
			continue
		}
		s.pages[id] = twigOf(id, kid(name(2*at, levels), 2*at+1), kid(name(2*at+1, levels), 2*at+2))
	}
	return s
}

// name tells the least key below a place in a heap.
func name(at, levels int) string {
	for at < 1<<(levels-1) {
		at *= 2
	}
	return strconv.Itoa(10000 + at)
}

// grown tells a tree of n items that were put in an order that step makes.
func grown(t *testing.T, n, step int) (*shelf, int) {
	t.Helper()
	m, root := maker{of()}, 0
	for i := range n {
		key := strconv.Itoa(1000 + i*step%n)
		root = put(t, m, root, api.Item{Key: key, Value: strings.Repeat("v", i%40), Kind: i % 3})
	}
	return m.with(), root
}

// put is tree.Put of what may be.
func put(t *testing.T, p tree.Pages, root int, i api.Item) int {
	t.Helper()
	to, e := tree.Put(p, root, i)
	if e != api.OK {
		t.Fatalf("Put of %q: error %d", i.Key, e)
	}
	return to
}

// made is a tree: its pages, and its root.
type made struct {
	*shelf
	root int
}

// trees tells trees to go through.
func trees(t *testing.T) map[string]made {
	t.Helper()
	many, root := grown(t, 500, 7)
	return map[string]made{
		"an empty tree": {of(leafOf(2, "a")), 0},
		"one item":      {of(leafOf(2, "a")), 2},
		"one leaf":      {of(leafOf(6, "b", "d", "dd", "e")), 6},
		"two levels":    {two(), 9},
		"three levels":  {three(), 20},
		"many levels":   {full(6), 2},
		"many items":    {many, root},
	}
}

// items tells all items of a sound tree, in order, and all of its pages as
// they are come to, from itself down.
func (s *shelf) items(root int) ([]api.Item, []int) {
	p, there := s.pages[root]
	if !there || root == 0 {
		return nil, nil
	}
	l, _ := leaf.Read(p.Body)
	ids := []int{root}
	if p.Kind == api.Twig {
		kids, _ := twig.Read(p.Body)
		l = nil
		for _, k := range kids {
			below, more := s.items(k.Page)
			l, ids = append(l, below...), append(ids, more...)
		}
	}
	return l, ids
}

// around tells keys, and such as are beside them, and far off.
func around(l []api.Item) []string {
	keys := []string{"", "\x00", "\xff", strings.Repeat("k", 33), strings.Repeat("\xff", 100)}
	for _, i := range l {
		below := i.Key[:len(i.Key)-1] + string([]byte{i.Key[len(i.Key)-1] - 1})
		keys = append(keys, i.Key, i.Key+"\x00", i.Key[:len(i.Key)-1], below, below+"\xff")
	}
	return keys
}

// forth tells the items to which a cursor comes from the first one on.
func forth(w *walk.Walk) []api.Item { return run(w, w.First(), w.Next) }

// back tells the items to which a cursor comes from the last one on.
func back(w *walk.Walk) []api.Item { return run(w, w.Last(), w.Back) }

// run tells the items to which a cursor comes, where it stands ahead.
func run(w *walk.Walk, stands bool, on func() bool) []api.Item {
	var l []api.Item
	for ; stands && len(l) < 5000; stands = on() {
		i, _ := w.Item()
		l = append(l, i)
	}
	return l
}

// turned tells a list the other way round.
func turned(l []api.Item) []api.Item {
	l = slices.Clone(l)
	slices.Reverse(l)
	return l
}

// keysOf tells the keys of items.
func keysOf(l []api.Item) []string {
	var keys []string
	for _, i := range l {
		keys = append(keys, i.Key)
	}
	return keys
}

// check holds an error against the one that is wanted.
func check(t *testing.T, what string, got, want api.Errno) {
	t.Helper()
	if got != want {
		t.Errorf("%s: error %d, not %d", what, got, want)
	}
}

// checkInts holds ids against those that are wanted.
func checkInts(t *testing.T, what string, got []int, want ...int) {
	t.Helper()
	if !slices.Equal(got, want) {
		t.Errorf("%s: %v, not %v", what, got, want)
	}
}

// checkItems holds items against those that are wanted.
func checkItems(t *testing.T, what string, got, want []api.Item) {
	t.Helper()
	if !slices.Equal(got, want) {
		t.Errorf("%s: %q, not %q", what, keysOf(got), keysOf(want))
	}
}

// checkNone holds that nothing but pages was asked for.
func checkNone(t *testing.T, what string, s *shelf) {
	t.Helper()
	if len(s.wrong) > 0 {
		t.Errorf("%s: %v", what, s.wrong)
	}
}

// checkAt holds where a cursor stands, and what the call ahead told, against
// the place in a list where it is to stand: nowhere, if there is none.
func checkAt(t *testing.T, what string, w *walk.Walk, told bool, l []api.Item, at int) {
	t.Helper()
	var want api.Item
	stands := at >= 0 && at < len(l)
	if stands {
		want = l[at]
	}
	got, ok := w.Item()
	if told != stands || ok != stands || got != want || w.Err() != api.OK {
		t.Errorf("%s: %t; it stands at %v, %t, error %d, not %v, %t", what, told, got, ok, w.Err(), want, stands)
	}
}

// checkBad holds that a cursor stands nowhere, for good, and tells an error.
func checkBad(t *testing.T, what string, w *walk.Walk, want api.Errno) {
	t.Helper()
	check(t, what, w.Err(), want)
	for name, call := range calls(w) {
		if call() {
			t.Errorf("%s: %s is true", what, name)
		}
		if i, ok := w.Item(); ok || i != (api.Item{}) {
			t.Errorf("%s: behind %s it stands at %v, %t", what, name, i, ok)
		}
		check(t, what+", behind "+name, w.Err(), want)
	}
}

// calls tells the calls of a cursor that move it.
func calls(w *walk.Walk) map[string]func() bool {
	return map[string]func() bool{
		"First": w.First, "Last": w.Last, "Next": w.Next, "Back": w.Back,
		"Seek": func() bool { return w.Seek("f") }, "Seek of nothing": func() bool { return w.Seek("") },
	}
}

// draws are numbers that are as good as drawn, but the same each time.
type draws struct{ x uint32 }

// below tells one from 0 on below n.
func (r *draws) below(n int) int {
	r.x = r.x*1664525 + 1013904223
	return int(r.x>>8) % n
}

// shape draws a sound tree: leaves and twigs of any size, and keys of children
// that are any that may be; its items, too.
func (r *draws) shape() (made, []api.Item) {
	s, id := of(), 1
	var l []api.Item
	var row []api.Kid // of a level; their keys are the least ones below them
	ahead, last := map[int]string{}, ""
	for range 1 + r.below(14) {
		var keys []string
		for range 1 + r.below(4) {
			keys = append(keys, string([]byte{byte(20 + 4*(len(l)+len(keys))), byte(r.below(3))})[:1+r.below(2)])
		}
		id++
		s.pages[id] = leafOf(id, keys...)
		row, ahead[id], last = append(row, kid(keys[0], id)), last, keys[len(keys)-1]
		items, _ := leaf.Read(s.pages[id].Body)
		l = append(l, items...)
	}
	for len(row) > 1 {
		row = r.level(s, row, ahead)
	}
	return made{s, row[0].Page}, l
}

// level draws the twigs above a row of pages; ahead tells the greatest key ahead of each page.
func (r *draws) level(s *shelf, row []api.Kid, ahead map[int]string) []api.Kid {
	var above []api.Kid
	for len(row) > 0 {
		n := 2 + r.below(3)
		if len(row)-n < 2 {
			n = len(row)
		}
		var kids []api.Kid
		for at, k := range row[:n] {
			from := ahead[k.Page] + "\x00" // the least one that may be
			if at == 0 {
				from = ""
			}
			between := max(from, string([]byte{k.Key[0] - 1}))
			kids = append(kids, kid([]string{k.Key, from, between}[r.below(3)], k.Page))
		}
		id := len(s.pages) + 2
		s.pages[id], ahead[id] = twigOf(id, kids...), ahead[row[0].Page]
		above = append(above, kid(row[0].Key, id))
		row = row[n:]
	}
	return above
}
