package tree_test

import (
	"maps"
	"slices"
	"strconv"
	"strings"
	"testing"

	"rootstock/api"
	"rootstock/leaf"
	"rootstock/tree"
)

// checkPages holds what was done with pages against P1203: ahead of it the
// tree of root had the ids old, and the pages were before.
func checkPages(t *testing.T, what string, s *shelf, before map[int]api.Page, old []int, to int) {
	t.Helper()
	v, _ := s.look(to)
	for id, p := range before {
		if !slices.Contains(s.sets, id) && s.pages[id] != p {
			t.Errorf("%s: page %d is another one", what, id)
		}
	}
	var less []int // that the old tree has, and the new one has not
	for _, id := range old {
		if !slices.Contains(v.ids, id) {
			less = append(less, id)
		}
	}
	checkInts(t, what+": Freed", slices.Sorted(slices.Values(s.gone)), slices.Sorted(slices.Values(less))...)
	for _, id := range slices.Concat(s.news, s.sets) {
		if !slices.Contains(v.ids, id) {
			t.Errorf("%s: page %d is kept for nothing", what, id)
		}
	}
	for _, id := range v.ids {
		if !slices.Contains(old, id) && !slices.Contains(s.news, id) {
			t.Errorf("%s: page %d comes from nowhere", what, id)
		}
	}
	if len(slices.Compact(slices.Sorted(slices.Values(s.sets)))) < len(s.sets) {
		t.Errorf("%s: Set more than once: %v", what, s.sets)
	}
	if len(s.wrong) > 0 {
		t.Errorf("%s: %v", what, s.wrong)
	}
}

// acts tells puts and deletes to try with a tree of items.
func acts(l []api.Item) []func(p tree.Pages, root int) (int, api.Errno) {
	var acts []func(p tree.Pages, root int) (int, api.Errno)
	for n, key := range around(l) {
		if i := item(key, strings.Repeat("x", n%97)); leaf.Valid(i) && n < 60 {
			acts = append(acts, func(p tree.Pages, root int) (int, api.Errno) { return tree.Put(p, root, i) })
		}
	}
	for n, i := range l {
		if n%4 == 0 || n < 20 {
			acts = append(acts, func(p tree.Pages, root int) (int, api.Errno) {
				to, _, e := tree.Delete(p, root, i.Key)
				return to, e
			})
		}
	}
	return acts
}

// owned tells which pages are mine: none, all, or some.
func owned(s *shelf, which int) *shelf {
	c := s.copy()
	for id := range c.pages {
		c.mine[id] = which == 1 || which > 1 && id%which == 0
	}
	return c
}

func TestP1203OldPagesStayAsTheyAre(t *testing.T) {
	for what, make := range trees() {
		s, root := make()
		v, _ := s.look(root)
		for n, act := range acts(v.items) {
			c := s.copy()
			to, e := act(c, root)
			what := what + ", act " + strconv.Itoa(n)
			check(t, what, e, api.OK)
			checkPages(t, what, c, s.pages, v.ids, to)
			checkInts(t, what+": Set", c.sets)
			checkTree(t, what+": the old one", c, root, v.items...)
		}
	}
}

func TestP1203MineIsSet(t *testing.T) {
	for what, make := range trees() {
		s, root := make()
		v, _ := s.look(root)
		for n, act := range acts(v.items) {
			for which := 1; which < 5; which++ {
				c := owned(s, which)
				to, e := act(c, root)
				what := what + ", act " + strconv.Itoa(n) + ", mine by " + strconv.Itoa(which)
				check(t, what, e, api.OK)
				checkPages(t, what, c, s.pages, v.ids, to)
				if which == 1 && len(c.news) > 0 && len(c.gone) > 0 {
					t.Errorf("%s: New %v, and Free %v of what is mine", what, c.news, c.gone)
				}
			}
		}
	}
}

// A page that is mine stands where it stood: those above it need no change.
func TestP1203MineIsSetInItsPlace(t *testing.T) {
	s := three()
	s.mine[12] = true
	v, _ := s.look(20)
	for n, i := range []api.Item{item("q", strings.Repeat("x", 96)), item("o", strings.Repeat("x", 50)), item("n", "1"), item("o", strings.Repeat("y", 40))} {
		s.begin()
		if to := put(t, s, 20, i); to != 20 {
			t.Errorf("the root is %d", to)
		}
		v.items = leaf.Put(v.items, i)
		checkInts(t, "Set of "+strconv.Itoa(n), s.sets, 12)
		checkInts(t, "New", s.news)
		checkInts(t, "Freed", s.gone)
	}
	s.begin()
	if to := drop(t, s, 20, "n"); to != 20 {
		t.Errorf("the root is %d", to)
	}
	v.items, _ = leaf.Drop(v.items, "n")
	checkInts(t, "Set", s.sets, 12)
	checkInts(t, "New", s.news)
	checkInts(t, "Freed", s.gone)
	checkTree(t, "mine alone", s, 20, v.items...)
	s.begin()
	s.mine[4] = true
	if to := put(t, s, 20, item("c", "1")); to != 20 {
		t.Errorf("the root is %d", to)
	}
	checkInts(t, "Set", s.sets, 4)
	s.begin()
	to := put(t, s, 20, item("s", "1"))
	checkInts(t, "Set", s.sets)
	checkInts(t, "Freed", s.gone, 13, 15, 20)
	checkInts(t, "New", s.news, to-2, to-1, to)
}

// A page that is kept again, or given back, is the one that was asked for,
// whatever Id it tells.
func TestP1203PagesThatTellNoId(t *testing.T) {
	for which := range 4 {
		s := owned(three(), which)
		s.bare = true
		v, _ := s.look(20)
		root := put(t, s, 20, item("c", "1"))
		root = drop(t, s, root, "p")
		s.bare = false
		want, _ := leaf.Drop(leaf.Put(v.items, item("c", "1")), "p")
		checkTree(t, "mine by "+strconv.Itoa(which), s, root, want...)
	}
}

// What is told of a page that is mine, its Tx, is kept with it.
func TestP1203SetKeepsTheTx(t *testing.T) {
	s := three()
	for id, p := range s.pages {
		p.Tx = 100 + id
		s.pages[id], s.mine[id] = p, true
	}
	root := put(t, s, 20, item("s", strings.Repeat("x", 96)))
	root = put(t, s, root, item("s2", strings.Repeat("x", 96)))
	root = put(t, s, root, item("s3", strings.Repeat("x", 96)))
	root = drop(t, s, root, "b")
	root = drop(t, s, root, "d")
	for _, id := range s.sets {
		if p := s.pages[id]; p.Tx != 100+id && !slices.Contains(s.news, id) {
			t.Errorf("page %d: Tx %d", id, p.Tx)
		}
	}
	if len(s.sets) < 5 || len(s.wrong) > 0 {
		t.Errorf("Set %v, wrong %v", s.sets, s.wrong)
	}
}

// calls tells how often each call of Pages comes.
func calls(s *shelf) map[string]int {
	return map[string]int{"Get": len(s.gets), "New": len(s.news), "Set": len(s.sets)}
}

// Each call of Pages is told an error, one after the other: it is answered, and the old tree stands.
func TestP1203ErrorsOfPages(t *testing.T) {
	told := map[string]int{}
	for what, make := range trees() {
		s, root := make()
		v, _ := s.look(root)
		for n, act := range acts(v.items) {
			for which := range 3 {
				good := owned(s, which)
				act(good, root)
				for name, many := range calls(good) {
					for nth := 1; nth <= many; nth++ {
						c := owned(s, which)
						c.name, c.nth, c.bad = name, nth, api.Errno(100+nth)
						to, e := act(c, root)
						what := what + ", act " + strconv.Itoa(n) + ", " + name + " " + strconv.Itoa(nth)
						if to != 0 || e != api.Errno(100+nth) {
							t.Errorf("%s: %d, error %d", what, to, e)
						}
						checkUndone(t, what, c, s, name)
						told[name]++
					}
				}
			}
		}
	}
	for _, name := range []string{"Get", "New", "Set"} {
		if told[name] < 100 {
			t.Errorf("%s was told an error but %d times", name, told[name])
		}
	}
}

// checkUndone holds that nothing was done: what was taken is given back, and
// no old page is another one, unless it was a Set that was told an error.
func checkUndone(t *testing.T, what string, c, s *shelf, name string) {
	t.Helper()
	if name == "Set" {
		checkInts(t, what+": Freed", c.gone)
		return
	}
	checkInts(t, what+": Freed", slices.Sorted(slices.Values(c.gone)), c.news...)
	checkInts(t, what+": Set", c.sets)
	if len(c.wrong) > 0 {
		t.Errorf("%s: %v", what, c.wrong)
	}
	for id, p := range s.pages {
		if c.pages[id] != p {
			t.Errorf("%s: page %d is another one", what, id)
		}
	}
}

// The first one of several errors is the one that is told.
func TestP1203TheFirstError(t *testing.T) {
	for _, name := range []string{"Get", "New", "Set"} {
		for which := range 2 {
			c := owned(three(), which)
			c.name, c.nth, c.bad, c.all = name, 1, api.ErrOff, true
			to, e := tree.Put(c, 20, item("s", "1"))
			if done := which == 0 && name == "Set" || which == 1 && name == "New"; done != (e == api.OK) || !done && (to != 0 || e != api.ErrOff) {
				t.Errorf("%s is told an error each time, %d: %d, error %d", name, which, to, e)
			}
		}
	}
}

// What reads alone answers the first error, too, and nothing beside it.
func TestP1203ErrorsOfReading(t *testing.T) {
	for what, make := range trees() {
		s, root := make()
		for _, key := range []string{"b", "m", "1200"} {
			for name := range answers(s.copy(), root, key) {
				if name == "Put" || name == "Delete" || name == "Drop" {
					continue
				}
				good := s.copy()
				one(good, root, key, name)
				for nth := range good.gets {
					c := s.copy()
					c.name, c.nth, c.bad = "Get", nth+1, api.ErrSum
					checkAnswers(t, what+", Get "+strconv.Itoa(nth+1), map[string][]any{name: one(c, root, key, name)}, api.ErrSum)
				}
			}
		}
		for nth := range len(s.pages) {
			c := s.copy()
			c.name, c.nth, c.bad = "Get", nth+1, api.ErrForm
			if root != 0 {
				check(t, what+": Drop", tree.Drop(c, root), api.ErrForm)
			}
			checkNone(t, what+": Drop", c)
		}
	}
}

// one tells what one of the calls that only read answers.
func one(p tree.Pages, root int, key, name string) []any {
	switch name {
	case "Get":
		i, there, e := tree.Get(p, root, key)
		return []any{i, there, e}
	case "Items":
		l, e := tree.Items(p, root, key, 99)
		return []any{len(l), e}
	case "Depth":
		n, e := tree.Depth(p, root)
		return []any{n, e}
	case "Ids":
		l, e := tree.Ids(p, root)
		return []any{len(l), e}
	}
	return []any{tree.Check(p, root)}
}

// spoilt tells pages of an id that can't be in a tree.
func spoilt(p api.Page) []api.Page {
	return []api.Page{
		raw(p.Id, api.Over, p.Body), raw(p.Id, api.Free, p.Body), raw(p.Id, api.Meta, p.Body), raw(p.Id, 0, p.Body), raw(p.Id, 6, p.Body),
		raw(p.Id, api.Leaf+api.Twig-p.Kind, p.Body),
		raw(p.Id, p.Kind, ""), raw(p.Id, p.Kind, "\x00"), raw(p.Id, p.Kind, p.Body+"\x00"), raw(p.Id, p.Kind, p.Body[1:]), raw(p.Id, p.Kind, p.Body[:len(p.Body)-1]),
	}
}

// A page that is damaged is ErrBroken of each call that reads it, and of no other one.
func TestP1203DamagedPages(t *testing.T) {
	for what, make := range trees() {
		s, root := make()
		v, _ := s.look(root)
		for n, id := range v.ids {
			if n > 12 {
				continue
			}
			for k, p := range spoilt(s.pages[id]) {
				c := s.with(p)
				what := what + ": " + strconv.Itoa(id) + " is spoilt, " + strconv.Itoa(k)
				check(t, what+": Check", tree.Check(c, root), api.ErrBroken)
				check(t, what+": Drop", tree.Drop(c, root), api.ErrBroken)
				if ids, e := tree.Ids(c, root); len(ids) > 0 || e != api.ErrBroken {
					t.Errorf("%s: Ids: %v, error %d", what, ids, e)
				}
				if l, e := tree.Items(c, root, "", len(v.items)); len(l) > 0 || e != api.ErrBroken {
					t.Errorf("%s: Items: %v, error %d", what, l, e)
				}
				checkNone(t, what, c)
				for n, act := range acts(v.items) {
					d := c.copy()
					to, e := act(d, root)
					checkDamaged(t, what+", act "+strconv.Itoa(n), d, c, id, to, e)
				}
			}
		}
	}
}

// checkDamaged holds that a put or a delete tells of the damaged page if it was read.
func checkDamaged(t *testing.T, what string, c, before *shelf, id, to int, e api.Errno) {
	t.Helper()
	if !slices.Contains(c.gets, id) {
		check(t, what, e, api.OK)
		return
	}
	if to != 0 || e != api.ErrBroken {
		t.Errorf("%s: %d, error %d", what, to, e)
	}
	checkUndone(t, what, c, before, "Get")
}

// Put and Get read the way down alone, and ask nothing of what stands beside it.
func TestP1203PutReadsTheWayAlone(t *testing.T) {
	s := three()
	for _, id := range []int{4, 7, 9, 11, 13} {
		s.pages[id] = raw(id, api.Over, "spoilt")
	}
	checkGet(t, "the only sound way", s, 20, "p", item("p", "is p"), true)
	s.begin()
	root := put(t, s, 20, item("q", "1"))
	checkInts(t, "read", s.gets, 20, 15, 12)
	checkGet(t, "the only sound way", s, root, "q", item("q", "1"), true)
	if to, was, e := tree.Delete(s, root, "b"); to != 0 || was || e != api.ErrBroken {
		t.Errorf("Delete of what is spoilt: %d, %t, error %d", to, was, e)
	}
}

// Keys that do not rise from page to page may be found out when they are to
// be laid: that is a damaged page, not a wrong argument.
func TestP1203DamagedOrder(t *testing.T) {
	s := of(leafOf(4, "b", "d"), leafOf(7, "a", "c"), twigOf(9, kid("", 4), kid("e", 7)))
	for _, mine := range []bool{false, true} {
		c := s.copy()
		c.mine[4], c.mine[7], c.mine[9] = mine, mine, mine
		if to, was, e := tree.Delete(c, 9, "d"); to != 0 || was || e != api.ErrBroken {
			t.Errorf("Delete, mine %t: %d, %t, error %d", mine, to, was, e)
		}
		checkNone(t, "Delete", c)
	}
	beside := of(leafOf(4, "b", "c"), twigOf(7, kid("", 3), kid("x", 2)), twigOf(9, kid("", 4), kid("e", 7)))
	if to, was, e := tree.Delete(beside, 9, "b"); to != 0 || was || e != api.ErrBroken {
		t.Errorf("Delete beside a twig: %d, %t, error %d", to, was, e)
	}
	checkNone(t, "Delete beside a twig", beside)
}

// wild is Pages one of whose methods panics.
type wild struct {
	*shelf
	name string
}

func (w wild) fall(name string) {
	if name == w.name {
		panic("no page")
	}
}

func (w wild) Get(id int) (api.Page, api.Errno) { w.fall("Get"); return w.shelf.Get(id) }

func (w wild) New(p api.Page) (int, api.Errno) { w.fall("New"); return w.shelf.New(p) }

func (w wild) Set(p api.Page) api.Errno { w.fall("Set"); return w.shelf.Set(p) }

func (w wild) Mine(id int) bool { w.fall("Mine"); return w.shelf.Mine(id) }

func (w wild) Free(ids ...int) { w.fall("Free"); w.shelf.Free(ids...) }

func TestP1203PagesThatPanic(t *testing.T) {
	checkAnswers(t, "Get panics", answers(wild{three(), "Get"}, 20, "b"), api.ErrBroken)
	for _, name := range []string{"New", "Set", "Mine", "Free"} {
		which := 0
		if name == "Set" {
			which = 1
		}
		l := map[string][]any{}
		to, e := tree.Put(wild{owned(three(), which), name}, 20, item("a", "1"))
		l["Put"] = []any{to, e}
		to, was, e := tree.Delete(wild{owned(three(), which), name}, 20, "r")
		l["Delete"] = []any{to, was, e}
		if name == "Free" {
			l["Drop"] = []any{tree.Drop(wild{three(), name}, 20)}
		}
		checkAnswers(t, name+" panics", l, api.ErrBroken)
	}
	var none *shelf
	checkAnswers(t, "a nil shelf", answers(none, 20, "b"), api.ErrBroken)
}

// The pages that were handed out are not written into, and the ids that are given back are nobody else's.
func TestP1203NothingIsShared(t *testing.T) {
	s := three()
	before := maps.Clone(s.pages)
	root := put(t, s, 20, item("c", "1"))
	root = drop(t, s, root, "p")
	gone := slices.Clone(s.gone)
	root = put(t, s, root, item("u", "1"))
	root = drop(t, s, root, "c")
	checkInts(t, "Freed ahead of it", s.gone[:len(gone)], gone...)
	for id, p := range before {
		if s.pages[id] != p {
			t.Errorf("page %d is another one", id)
		}
	}
	v, _ := s.look(root)
	checkTree(t, "the tree", s, root, v.items...)
}
