package tree_test

import (
	"math"
	"slices"
	"strconv"
	"strings"
	"testing"

	"rootstock/api"
	"rootstock/leaf"
	"rootstock/tree"
)

// checkGet holds Get against the item that is wanted, if it is there.
func checkGet(t *testing.T, what string, s *shelf, root int, key string, want api.Item, there bool) {
	t.Helper()
	if got, ok, e := tree.Get(s, root, key); got != want || ok != there || e != api.OK {
		t.Errorf("%s: Get of %q: %v, %t, error %d, not %v, %t", what, key, got, ok, e, want, there)
	}
}

// around tells keys, and such as are beside them, and far off.
func around(l []api.Item) []string {
	keys := []string{"", "\x00", "\xff", strings.Repeat("k", 33), strings.Repeat("\xff", 1<<16)}
	for _, i := range l {
		below := i.Key[:len(i.Key)-1] + string([]byte{i.Key[len(i.Key)-1] - 1})
		keys = append(keys, i.Key, i.Key+"\x00", i.Key[:len(i.Key)-1], below, below+"\xff")
	}
	return keys
}

// trees tells trees to ask, by their roots.
func trees() map[string]func() (*shelf, int) {
	return map[string]func() (*shelf, int){
		"an empty tree": func() (*shelf, int) { return of(leafOf(2, "a")), 0 },
		"one item":      func() (*shelf, int) { return of(leafOf(2, "a")), 2 },
		"one leaf":      func() (*shelf, int) { return of(leafOf(6, "b", "d", "dd", "e")), 6 },
		"two levels":    func() (*shelf, int) { return two(), 9 },
		"three levels":  func() (*shelf, int) { return three(), 20 },
		"outer above":   func() (*shelf, int) { return outer(), 20 },
		"many":          func() (*shelf, int) { return grown(500, 7) },
	}
}

// grown tells a tree of n items that were put in an order that step makes; none of its pages is mine.
func grown(n, step int) (*shelf, int) {
	s, root := of(), 0
	for i := range n {
		key := strconv.Itoa(1000 + i*step%n)
		root, _ = tree.Put(s, root, api.Item{Key: key, Value: strings.Repeat("v", i%40), Kind: i % 3})
	}
	s.mine = map[int]bool{}
	s.begin()
	return s, root
}

func TestP1201Get(t *testing.T) {
	for what, make := range trees() {
		s, root := make()
		v, _ := s.look(root)
		for _, key := range around(v.items) {
			at, there := leaf.Find(v.items, key)
			want := api.Item{}
			if there {
				want = v.items[at]
			}
			checkGet(t, what, s, root, key, want, there)
		}
		checkNone(t, what, s)
	}
}

// No more pages are read than stand on the way.
func TestP1201GetGoesDownOneWay(t *testing.T) {
	s := three()
	for key, want := range map[string][]int{"b": {20, 9, 4}, "": {20, 9, 4}, "g": {20, 9, 7}, "i": {20, 15, 11}, "m": {20, 15, 11}, "p": {20, 15, 12}, "z": {20, 15, 13}} {
		s.begin()
		tree.Get(s, 20, key)
		checkInts(t, "pages for "+key, s.gets, want...)
	}
	s.begin()
	tree.Get(s, 0, "b")
	checkInts(t, "pages of an empty tree", s.gets)
}

func TestP1201PutExample(t *testing.T) {
	s := of()
	root := put(t, s, 0, item("a", "1"))
	checkTree(t, "a = 1", s, root, item("a", "1"))
	checkInts(t, "the root is new", s.news, root)
}

// An item is put between any two others, and in the place of each.
func TestP1201Put(t *testing.T) {
	for what, make := range trees() {
		s, root := make()
		v, _ := s.look(root)
		for n, key := range around(v.items) {
			i := api.Item{Key: key, Value: strings.Repeat("x", n%97), Kind: n % 3}
			if n > 60 || !leaf.Valid(i) {
				continue
			}
			c := s.copy()
			to := put(t, c, root, i)
			checkTree(t, what+": "+strconv.Quote(key), c, to, leaf.Put(v.items, i)...)
			checkTree(t, what+": the old one", c, root, v.items...)
		}
	}
}

func TestP1201PutOfWhatMayNotBe(t *testing.T) {
	for _, i := range []api.Item{
		{}, item("", "1"), item(strings.Repeat("k", 33), "1"), item("k", strings.Repeat("v", 97)),
		{Key: "k", Kind: -1}, {Key: "k", Kind: 3}, {Key: "k", Kind: math.MaxInt}, {Key: "k", Kind: 256},
	} {
		for _, root := range []int{0, 9, 4, 99, -1} {
			s := two()
			if to, e := tree.Put(s, root, i); to != 0 || e != api.ErrArg {
				t.Errorf("Put of %v on %d: %d, error %d", i, root, to, e)
			}
			checkNone(t, "Put of what may not be", s)
			checkInts(t, "pages that are read", s.gets)
		}
	}
	s, root := of(), 0
	for _, i := range []api.Item{item("k", strings.Repeat("v", 96)), item(strings.Repeat("k", 32), ""), {Key: "k", Kind: api.Within}} {
		root = put(t, s, root, i)
		checkGet(t, "what just may be", s, root, i.Key, i, true)
	}
}

func TestP1201Delete(t *testing.T) {
	for what, make := range trees() {
		s, root := make()
		v, _ := s.look(root)
		for n, i := range v.items {
			if n%5 > 0 && n > 20 {
				continue
			}
			c := s.copy()
			to := drop(t, c, root, i.Key)
			want, _ := leaf.Drop(v.items, i.Key)
			checkTree(t, what+": "+strconv.Quote(i.Key), c, to, want...)
			checkTree(t, what+": the old one", c, root, v.items...)
		}
	}
}

func TestP1201DeleteOfNone(t *testing.T) {
	for what, make := range trees() {
		s, root := make()
		v, _ := s.look(root)
		for _, key := range around(v.items) {
			if _, there := leaf.Find(v.items, key); there {
				continue
			}
			if to, was, e := tree.Delete(s, root, key); to != root || was || e != api.OK {
				t.Errorf("%s: Delete of %q: %d, %t, error %d", what, key, to, was, e)
			}
		}
		checkNone(t, what, s)
		checkTree(t, what, s, root, v.items...)
	}
}

func TestP1201DeleteOfTheLastOne(t *testing.T) {
	for _, mine := range []bool{false, true} {
		s := of(leafOf(5, "a"))
		s.mine[5] = mine
		if to, was, e := tree.Delete(s, 5, "a"); to != 0 || !was || e != api.OK {
			t.Errorf("Delete of the last one: %d, %t, error %d", to, was, e)
		}
		checkInts(t, "Freed", s.gone, 5)
		checkInts(t, "New", s.news)
	}
}

func TestP1201Items(t *testing.T) {
	for what, make := range trees() {
		s, root := make()
		v, _ := s.look(root)
		for _, from := range around(v.items) {
			at, _ := leaf.Find(v.items, from)
			behind := v.items[at:]
			for _, most := range []int{math.MinInt, -1, 0, 1, 2, 3, 5, len(behind) - 1, len(behind), len(behind) + 1, math.MaxInt} {
				want := behind[:min(max(most, 0), len(behind))]
				got, e := tree.Items(s, root, from, most)
				if !slices.Equal(got, want) || e != api.OK {
					t.Fatalf("%s: %d Items from %q on: %q, error %d, not %q", what, most, from, keysOf(got), e, keysOf(want))
				}
			}
		}
		checkNone(t, what, s)
	}
}

// What is behind the last item that is asked for is not read.
func TestP1201ItemsReadsNoMoreThanItTells(t *testing.T) {
	for _, c := range []struct {
		from string
		most int
		want []int
	}{
		{"", 0, nil}, {"", 1, []int{20, 9, 4}}, {"", 2, []int{20, 9, 4}}, {"", 3, []int{20, 9, 4, 7}},
		{"g", 1, []int{20, 9, 7}}, {"g", 2, []int{20, 9, 7, 15, 11}}, {"i", 9, []int{20, 15, 11, 12, 13}},
	} {
		s := three()
		tree.Items(s, 20, c.from, c.most)
		checkInts(t, strconv.Itoa(c.most)+" from "+c.from, s.gets, c.want...)
	}
}

func TestP1201ItemsAreNew(t *testing.T) {
	s := two()
	l, _ := tree.Items(s, 9, "", 4)
	clear(l[:cap(l)])
	ids, _ := tree.Ids(s, 9)
	clear(ids[:cap(ids)])
	v, _ := s.look(9)
	checkTree(t, "once more", s, 9, v.items...)
}

func TestP1201Depth(t *testing.T) {
	for what, want := range map[string]int{"an empty tree": 0, "one item": 1, "one leaf": 1, "two levels": 2, "three levels": 3} {
		s, root := trees()[what]()
		if n, e := tree.Depth(s, root); n != want || e != api.OK {
			t.Errorf("%s: Depth: %d, error %d, not %d", what, n, e, want)
		}
	}
}

// The pages of Far values, and those of buckets within, are none of the tree.
func TestP1201Ids(t *testing.T) {
	s := of(leafOf(5, "x"), api.Page{Kind: api.Over, Id: 6, Body: "far"})
	root := put(t, s, 0, api.Item{Key: "b", Value: "\x05\x00\x00\x00\x00\x00\x00\x00\x00\x00", Kind: api.Within})
	root = put(t, s, root, api.Item{Key: "f", Value: "\x06\x00\x03\x00", Kind: api.Far})
	ids, e := tree.Ids(s, root)
	check(t, "Ids", e, api.OK)
	checkInts(t, "Ids", ids, root)
	for what, want := range map[string][]int{"an empty tree": nil, "one item": {2}, "two levels": {3, 4, 7, 9}, "three levels": {4, 7, 9, 11, 12, 13, 15, 20}} {
		s, root := trees()[what]()
		ids, e := tree.Ids(s, root)
		check(t, what+": Ids", e, api.OK)
		checkInts(t, what+": Ids", ids, want...)
		checkNone(t, what, s)
	}
}

func TestP1201Drop(t *testing.T) {
	for what, make := range trees() {
		s, root := make()
		v, _ := s.look(root)
		check(t, what+": Drop", tree.Drop(s, root), api.OK)
		checkInts(t, what+": Freed", slices.Sorted(slices.Values(s.gone)), slices.Sorted(slices.Values(v.ids))...)
		s.gone = nil
		checkNone(t, what, s)
	}
}

// answers tells what each call answers, its error last.
func answers(p tree.Pages, root int, key string) map[string][]any {
	l := map[string][]any{}
	i, there, e := tree.Get(p, root, key)
	l["Get"] = []any{i, there, e}
	to, e := tree.Put(p, root, item(key, "1"))
	l["Put"] = []any{to, e}
	to, was, e := tree.Delete(p, root, key)
	l["Delete"] = []any{to, was, e}
	items, e := tree.Items(p, root, key, 99)
	l["Items"] = []any{len(items), e}
	n, e := tree.Depth(p, root)
	l["Depth"] = []any{n, e}
	ids, e := tree.Ids(p, root)
	l["Ids"] = []any{len(ids), e}
	l["Check"] = []any{tree.Check(p, root)}
	l["Drop"] = []any{tree.Drop(p, root)}
	return l
}

// checkAnswers holds all answers to be an error, and nothing beside it.
func checkAnswers(t *testing.T, what string, l map[string][]any, bad api.Errno) {
	t.Helper()
	for name, got := range l {
		for n, x := range got {
			if n < len(got)-1 && x != any(0) && x != any(false) && x != any(api.Item{}) || n == len(got)-1 && x != any(bad) {
				t.Errorf("%s: %s: %v, not %d", what, name, got, bad)
			}
		}
	}
}

func TestP1201WithoutPages(t *testing.T) {
	for _, root := range []int{0, 2, -1} {
		checkAnswers(t, "no Pages", answers(nil, root, "a"), api.ErrArg)
	}
}
