package tree_test

import (
	"maps"
	"math"
	"slices"
	"strconv"
	"strings"
	"testing"

	"rootstock/api"
	"rootstock/leaf"
	"rootstock/tree"
	"rootstock/twig"
)

// with tells the shelf with other pages in the places of theirs.
func (s *shelf) with(l ...api.Page) *shelf {
	c := s.copy()
	for _, p := range l {
		c.pages[p.Id] = p
		c.last = max(c.last, p.Id)
	}
	return c
}

// raw tells a page of a body as it may not be laid.
func raw(id, kind int, body string) api.Page {
	return api.Page{Kind: kind, Id: id, Tx: 5, Body: body}
}

func TestP1202CheckOfSoundTrees(t *testing.T) {
	for what, make := range trees() {
		s, root := make()
		check(t, what, tree.Check(s, root), api.OK)
		checkNone(t, what, s)
	}
	a, b, c, d := leafOf(2, "b", "d"), leafOf(3, "f", "h"), leafOf(4, "k", "m"), leafOf(5, "p")
	for what, s := range map[string]*shelf{
		"keys as they are":             of(a, b, c, twigOf(9, kid("b", 2), kid("f", 3), kid("k", 4))),
		"the first key empty":          of(a, b, c, twigOf(9, kid("", 2), kid("f", 3), kid("k", 4))),
		"the first key between":        of(a, b, twigOf(9, kid("a", 2), kid("f", 3))),
		"just above those ahead":       of(a, b, c, twigOf(9, kid("", 2), kid("d\x00", 3), kid("h\x00", 4))),
		"just two":                     of(a, b, twigOf(9, kid("", 2), kid("e", 3))),
		"an inner first key empty":     of(a, b, c, d, twigOf(7, kid("", 2), kid("f", 3)), twigOf(8, kid("", 4), kid("n", 5)), twigOf(9, kid("", 7), kid("i", 8))),
		"an inner first key at most":   of(a, b, c, d, twigOf(7, kid("b", 2), kid("f", 3)), twigOf(8, kid("k", 4), kid("n", 5)), twigOf(9, kid("b", 7), kid("h\x00", 8))),
		"an inner first key far below": of(a, b, c, d, twigOf(7, kid("a", 2), kid("f", 3)), twigOf(8, kid("a", 4), kid("p", 5)), twigOf(9, kid("b", 7), kid("k", 8))),
		"pages in any order":           of(leafOf(3999, "a"), leafOf(2, "b"), twigOf(1000, kid("", 3999), kid("b", 2))).with(twigOf(9, kid("", 3999), kid("b", 2))),
	} {
		check(t, what, tree.Check(s, 9), api.OK)
		if _, ok := s.look(9); !ok {
			t.Errorf("%s: the test takes it for no tree", what)
		}
	}
}

func TestP1202CheckOfBrokenTrees(t *testing.T) {
	a, b, c, d := leafOf(2, "b", "d"), leafOf(3, "f", "h"), leafOf(4, "k", "m"), leafOf(5, "p")
	left := twigOf(7, kid("", 2), kid("f", 3))
	for what, s := range map[string]*shelf{
		"a leaf of none":               of(leafOf(9)),
		"a leaf of none below":         of(a, leafOf(3), twigOf(9, kid("", 2), kid("f", 3))),
		"a twig of one":                of(a, twigOf(9, kid("", 2))),
		"a twig of one below":          of(a, b, c, left, twigOf(8, kid("k", 4)), twigOf(9, kid("", 7), kid("k", 8))),
		"a twig of none":               of(raw(9, api.Twig, "\x00")),
		"a value":                      of(raw(9, api.Over, leafOf(9, "a").Body)),
		"a free list":                  of(raw(9, api.Free, leafOf(9, "a").Body)),
		"a meta":                       of(raw(9, api.Meta, leafOf(9, "a").Body)),
		"no kind":                      of(raw(9, 0, leafOf(9, "a").Body), a),
		"a leaf that is no leaf":       of(raw(9, api.Leaf, twigOf(9, kid("", 2), kid("e", 3)).Body), a, b),
		"a twig that is no twig":       of(raw(9, api.Twig, a.Body)),
		"nothing in it":                of(raw(9, api.Leaf, "")),
		"a byte too many":              of(raw(9, api.Leaf, a.Body+"\x00")),
		"keys that do not rise":        of(raw(9, api.Leaf, "\x02\x00\x01\x00b\x00\x00\x00\x01\x00a\x00\x00")),
		"a first key above":            of(a, b, twigOf(9, kid("c", 2), kid("f", 3))),
		"a first key just above":       of(a, b, twigOf(9, kid("b\x00", 2), kid("f", 3))),
		"a key above":                  of(a, b, c, twigOf(9, kid("", 2), kid("f\x00", 3), kid("k", 4))),
		"a last key above":             of(a, b, c, twigOf(9, kid("", 2), kid("f", 3), kid("l", 4))),
		"a key as the one ahead":       of(a, b, c, twigOf(9, kid("", 2), kid("d", 3), kid("k", 4))),
		"a key below the one ahead":    of(a, b, c, twigOf(9, kid("", 2), kid("c", 3), kid("k", 4))),
		"a last key as the one ahead":  of(a, b, c, twigOf(9, kid("", 2), kid("f", 3), kid("h", 4))),
		"leaves the other way round":   of(a, b, twigOf(9, kid("", 3), kid("c", 2))),
		"an inner key as one ahead":    of(a, b, c, d, left, twigOf(8, kid("", 4), kid("m", 5)), twigOf(9, kid("", 7), kid("k", 8))),
		"an inner first key above":     of(a, b, c, d, left, twigOf(8, kid("l", 4), kid("n", 5)), twigOf(9, kid("", 7), kid("k", 8))),
		"an outer key as one ahead":    of(a, b, c, d, left, twigOf(8, kid("", 4), kid("n", 5)), twigOf(9, kid("", 7), kid("h", 8))),
		"an outer key above":           of(a, b, c, d, left, twigOf(8, kid("", 4), kid("n", 5)), twigOf(9, kid("", 7), kid("l", 8))),
		"an outer first key above":     of(a, b, c, d, left, twigOf(8, kid("", 4), kid("n", 5)), twigOf(9, kid("c", 7), kid("k", 8))),
		"a leaf beside a twig":         of(a, b, c, left, twigOf(9, kid("", 7), kid("k", 4))),
		"a twig beside a leaf":         of(a, b, c, twigOf(7, kid("", 3), kid("k", 4)), twigOf(9, kid("", 2), kid("f", 7))),
		"a leaf twice":                 of(a, twigOf(9, kid("", 2), kid("b", 2))),
		"a twig twice":                 of(a, b, left, twigOf(9, kid("", 7), kid("k", 7))),
		"a leaf in two twigs":          of(a, b, c, left, twigOf(8, kid("", 4), kid("n", 3)), twigOf(9, kid("", 7), kid("k", 8))),
		"itself its first child":       of(a, twigOf(9, kid("", 9), kid("b", 2))),
		"itself its last child":        of(a, twigOf(9, kid("", 2), kid("e", 9))),
		"the root below another twig":  of(a, b, twigOf(7, kid("", 2), kid("e", 9)), twigOf(9, kid("", 7), kid("k", 3))),
		"a ring beside all the others": of(a, b, twigOf(7, kid("k", 8), kid("l", 8)), twigOf(8, kid("k", 7), kid("l", 7)), twigOf(9, kid("", 2), kid("e", 3), kid("k", 7))),
	} {
		check(t, what, tree.Check(s, 9), api.ErrBroken)
		checkNone(t, what, s)
		if _, ok := s.look(9); ok {
			t.Errorf("%s: the test takes it for a tree", what)
		}
	}
}

// others tells pages like one, but for one thing.
func others(p api.Page, keys []string, pages []int) []api.Page {
	var l []api.Page
	items, kids, _ := says(p)
	twigs := func(kids []api.Kid) {
		if b, e := twig.Lay(kids...); e == api.OK {
			l = append(l, raw(p.Id, api.Twig, b))
		}
	}
	for n, k := range kids {
		twigs(slices.Delete(slices.Clone(kids), n, n+1))
		for _, key := range keys {
			twigs(twig.Swap(kids, n, kid(key, k.Page)))
		}
		for _, id := range pages {
			twigs(twig.Swap(kids, n, kid(k.Key, id)))
		}
	}
	for _, i := range items {
		less, _ := leaf.Drop(items, i.Key)
		for _, key := range keys {
			if b, e := leaf.Lay(leaf.Put(less, item(key, ""))...); e == api.OK {
				l = append(l, raw(p.Id, api.Leaf, b))
			}
		}
		b, _ := leaf.Lay(less...)
		l = append(l, raw(p.Id, api.Leaf, b))
	}
	for kind := range 7 {
		l = append(l, raw(p.Id, kind, p.Body))
	}
	return l
}

// Whatever is changed in a tree, in one place: Check tells whether it is one.
func TestP1202CheckOfEachChange(t *testing.T) {
	told := map[api.Errno]int{}
	for what, make := range trees() {
		s, root := make()
		v, _ := s.look(root)
		if len(v.items) > 20 {
			continue
		}
		for _, id := range v.ids {
			for _, p := range others(s.pages[id], around(v.items), v.ids) {
				c := s.with(p)
				want := api.OK
				if _, ok := c.look(root); !ok {
					want = api.ErrBroken
				}
				told[want]++
				check(t, what+": "+strconv.Itoa(id)+" is "+strconv.Quote(p.Body), tree.Check(c, root), want)
			}
		}
	}
	if told[api.OK] < 100 || told[api.ErrBroken] < 100 {
		t.Errorf("sound and broken ones came but %d and %d times", told[api.OK], told[api.ErrBroken])
	}
}

// Pages that have been read are not taken for sound: each leaf is asked.
func TestP1202CheckReadsAllPages(t *testing.T) {
	for what, make := range trees() {
		s, root := make()
		v, _ := s.look(root)
		tree.Check(s, root)
		checkInts(t, what, s.gets, v.ids...)
	}
}

// full tells a sound tree of so many levels, each twig of two, its root 2.
func full(levels int) *shelf {
	s := of()
	for id := 2; id < 1+1<<levels; id++ {
		at := id - 1 // as in a heap: below it are twice it, and one more
		if 2*at >= 1<<levels {
			s.pages[id] = leafOf(id, name(at, levels))
			continue
		}
		s.pages[id] = twigOf(id, kid(name(2*at, levels), 2*at+1), kid(name(2*at+1, levels), 2*at+2))
	}
	s.last = 1 << levels
	return s
}

// name tells the least key below a place in a heap.
func name(at, levels int) string {
	for at < 1<<(levels-1) {
		at *= 2
	}
	return strconv.Itoa(10000 + at)
}

// Twelve levels would need more pages than a file has; eleven are the most.
func TestP1202DeepTrees(t *testing.T) {
	for levels := 1; levels <= 11; levels++ {
		s := full(levels)
		v, ok := s.look(2)
		if !ok || v.depth != levels || len(v.items) != 1<<(levels-1) {
			t.Fatalf("%d levels: the test takes it for no tree", levels)
		}
		checkTree(t, strconv.Itoa(levels)+" levels", s, 2, v.items...)
		checkTree(t, "one less", s, drop(t, s, 2, v.items[len(v.items)/2].Key), slices.Delete(slices.Clone(v.items), len(v.items)/2, len(v.items)/2+1)...)
	}
}

// chain tells twigs, one below the other, down to a leaf, beside each of them another leaf.
func chain(levels int) *shelf {
	s := of()
	for n := range levels - 1 {
		s.pages[10+n] = twigOf(10+n, kid("", 11+n), kid(strconv.Itoa(90-n), 50+n))
		s.pages[50+n] = leafOf(50+n, strconv.Itoa(90-n))
	}
	s.pages[9+levels] = leafOf(9+levels, "11")
	return s
}

func TestP1202TooDeep(t *testing.T) {
	for levels := 2; levels < 20; levels++ {
		s := chain(levels)
		if levels > 2 {
			check(t, "a chain", tree.Check(s, 10), api.ErrBroken)
		}
		n, e := tree.Depth(s, 10)
		_, there, bad := tree.Get(s, 10, "11")
		if levels <= 12 && (n != levels || e != api.OK || !there || bad != api.OK) {
			t.Errorf("%d levels: Depth: %d, error %d; Get: %t, error %d", levels, n, e, there, bad)
		}
		if levels > 12 {
			checkAnswers(t, strconv.Itoa(levels)+" levels", answers(s, 10, "11"), api.ErrBroken)
			checkNone(t, "too deep", s)
		}
	}
}

// Each call comes to an end where pages stand in a ring, or come many times.
func TestP1202Rings(t *testing.T) {
	a := leafOf(2, "b")
	for what, s := range map[string]*shelf{
		"itself":    of(twigOf(9, kid("", 9), kid("x", 9))),
		"two":       of(twigOf(9, kid("", 8), kid("x", 8)), twigOf(8, kid("", 9), kid("y", 9))),
		"a way out": of(a, twigOf(9, kid("", 8), kid("x", 2)), twigOf(8, kid("", 9), kid("y", 2))),
	} {
		for _, key := range []string{"", "b", "k"} {
			l := answers(s, 9, key)
			if key == "" {
				delete(l, "Put") // its key may not be
			}
			checkAnswers(t, what, l, api.ErrBroken)
		}
		checkNone(t, what, s)
	}
	// Twelve levels of twigs all of whose children are one page: so many ways as could never be gone.
	s := of()
	for n := range 11 {
		var kids []api.Kid
		for k := range 30 {
			kids = append(kids, kid(string([]byte{byte(k)}), 11+n))
		}
		s.pages[10+n] = twigOf(10+n, kids...)
	}
	s.pages[21] = leafOf(21, "z")
	check(t, "all one page: Check", tree.Check(s, 10), api.ErrBroken)
	check(t, "all one page: Drop", tree.Drop(s, 10), api.ErrBroken)
	ids, e := tree.Ids(s, 10)
	check(t, "all one page: Ids", e, api.ErrBroken)
	checkInts(t, "all one page: Ids", ids)
	l, e := tree.Items(s, 10, "", math.MaxInt)
	if len(l) > 0 || e != api.ErrBroken {
		t.Errorf("all one page: Items: %d, error %d", len(l), e)
	}
	checkNone(t, "all one page", s)
}

// What is put and deleted in any tree of that shape, also one that it would not make, leaves such a tree.
func TestP1202WhateverTheShape(t *testing.T) {
	long := strings.Repeat("l", 32)
	a, b, c, d := leafOf(2, "b"), leafOf(3, "f"), leafOf(4, "k"), leafOf(5, "p")
	for what, s := range map[string]*shelf{
		"thin":             of(a, b, c, d, twigOf(7, kid("", 2), kid("d", 3)), twigOf(8, kid("", 4), kid("l", 5)), twigOf(9, kid("", 7), kid("g", 8))),
		"keys as they are": of(a, b, c, d, twigOf(7, kid("b", 2), kid("f", 3)), twigOf(8, kid("k", 4), kid("p", 5)), twigOf(9, kid("b", 7), kid("k", 8))),
		"keys that are long": of(a, b, c, d, twigOf(7, kid("a"+long[1:], 2), kid("e"+long[1:], 3)), twigOf(8, kid("a"+long[1:], 4), kid(long, 5)),
			twigOf(9, kid("a"+long[1:], 7), kid("g"+long[1:], 8))),
	} {
		v, ok := s.look(9)
		if !ok {
			t.Fatalf("%s: the test takes it for no tree", what)
		}
		for _, mine := range []bool{false, true} {
			everyOrder(t, what, s, 9, v.items, mine)
		}
	}
}

// everyOrder deletes all items in each order, and puts each of them, or one beside it, once more.
func everyOrder(t *testing.T, what string, s *shelf, root int, l []api.Item, mine bool) {
	t.Helper()
	for _, i := range l {
		c := s.copy()
		for id := range c.pages {
			c.mine[id] = mine
		}
		to := drop(t, c, root, i.Key)
		less, _ := leaf.Drop(l, i.Key)
		checkTree(t, what+" without "+i.Key, c, to, less...)
		for _, key := range []string{"a", "\x00", i.Key, "c", "g", "zz", strings.Repeat("g", 32)} {
			d := c.copy()
			at := put(t, d, to, item(key, strings.Repeat("v", 90)))
			checkTree(t, what+" without "+i.Key+" with "+key, d, at, leaf.Put(less, item(key, strings.Repeat("v", 90)))...)
		}
		if len(less) > 0 {
			everyOrder(t, what+" without "+i.Key, c, to, less, mine)
		}
	}
}

// shape draws a sound tree, from its root down: leaves and twigs of any size,
// and keys of children that are any that may be.
func (r *draws) shape() (*shelf, int, []api.Item) {
	s := of()
	var l []api.Item
	var row []api.Kid // of a level; their keys are the least ones below them
	ahead := map[int]string{}
	last := ""
	for range 1 + r.below(12) {
		var items []api.Item
		for range 1 + r.below(3) {
			key := string([]byte{byte(40 + 3*len(l)), byte(r.below(3))})
			items = append(items, api.Item{Key: key[:1+r.below(2)], Value: strings.Repeat("v", r.below(70)), Kind: r.below(3)})
			l = append(l, items[len(items)-1])
		}
		b, _ := leaf.Lay(items...)
		s.last++
		s.pages[s.last] = raw(s.last, api.Leaf, b)
		row = append(row, kid(items[0].Key, s.last))
		ahead[s.last], last = last, items[len(items)-1].Key
	}
	for len(row) > 1 {
		row = r.level(s, row, ahead)
	}
	return s, row[0].Page, l
}

// level draws the twigs above a row of pages; ahead tells the greatest key ahead of each page.
func (r *draws) level(s *shelf, row []api.Kid, ahead map[int]string) []api.Kid {
	var above []api.Kid
	for len(row) > 0 {
		n := 2 + r.below(4)
		if len(row)-n < 2 {
			n = len(row)
		}
		var kids []api.Kid
		for at, k := range row[:n] {
			from := ahead[k.Page] + "\x00"
			if at == 0 {
				from = ""
			}
			kids = append(kids, kid([]string{k.Key, from, max(from, k.Key[:len(k.Key)-1]), max(from, string([]byte{k.Key[0] - 1}))}[r.below(4)], k.Page))
		}
		s.last++
		s.pages[s.last] = twigOf(s.last, kids...)
		ahead[s.last] = ahead[row[0].Page]
		above = append(above, kid(row[0].Key, s.last))
		row = row[n:]
	}
	return above
}

// Whatever sound tree it is, and whichever of its pages are mine: each put and
// each delete makes a sound one of it.
func TestP1202AnyShape(t *testing.T) {
	r, deep, stay := &draws{3}, 0, 0
	for n := range 400 {
		s, root, l := r.shape()
		v, ok := s.look(root)
		if !ok || !slices.Equal(v.items, l) {
			t.Fatalf("the test takes its own tree %d for none", n)
		}
		deep = max(deep, v.depth)
		for k, act := range acts(l) {
			what := "tree " + strconv.Itoa(n) + ", act " + strconv.Itoa(k)
			c := owned(s, r.below(4))
			to, e := act(c, root)
			check(t, what, e, api.OK)
			check(t, what+": Check", tree.Check(c, to), api.OK)
			checkPages(t, what, c, s.pages, v.ids, to)
			if len(l) > 1 {
				if _, ok := c.look(to); !ok {
					t.Errorf("%s: no tree", what)
				}
			}
			if to == root {
				stay++
			}
		}
		if t.Failed() {
			return
		}
	}
	if deep < 4 || stay < 1000 {
		t.Errorf("no tree had more than %d levels; the root was kept but %d times", deep, stay)
	}
}

// A key that is put ahead of all others may be above an inner first key, and
// below an outer one: that one is changed, too.
func TestP1202OuterKeys(t *testing.T) {
	for which := range 8 {
		s := owned(outer(), 0)
		for n, id := range []int{4, 9, 20} {
			s.mine[id] = which>>n&1 > 0
		}
		v, _ := s.look(20)
		root := put(t, s, 20, item("b", "1"))
		checkTree(t, "mine by "+strconv.Itoa(which), s, root, leaf.Put(v.items, item("b", "1"))...)
		checkGet(t, "mine by "+strconv.Itoa(which), s, root, "b", item("b", "1"), true)
	}
}

// A page that is not there is an error of Pages, not of the tree.
func TestP1202CheckOfPagesThatAreNotThere(t *testing.T) {
	for _, root := range []int{math.MinInt, -1, 1, 99, 5000, math.MaxInt} {
		check(t, "root "+strconv.Itoa(root), tree.Check(two(), root), api.ErrRange)
	}
	for what, make := range trees() {
		s, root := make()
		for id := range maps.Clone(s.pages) {
			if c := s.copy(); root != 0 {
				delete(c.pages, id)
				check(t, what+" without "+strconv.Itoa(id), tree.Check(c, root), reached(s, root, id))
			}
		}
	}
}

// reached tells the error of a page that is not there: none, if the tree does not have it.
func reached(s *shelf, root, id int) api.Errno {
	if v, _ := s.look(root); slices.Contains(v.ids, id) {
		return api.ErrRange
	}
	return api.OK
}
