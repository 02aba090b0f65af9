package leaf_test

import (
	"maps"
	"slices"
	"strconv"
	"testing"

	"rootstock/api"
	"rootstock/leaf"
)

// checkFind holds what Find tells against what is wanted.
func checkFind(t *testing.T, what string, l []api.Item, key string, at int, there bool) {
	t.Helper()
	if k, ok := leaf.Find(l, key); k != at || ok != there {
		t.Errorf("%s: Find of %q: %d, %v, not %d, %v", what, key, k, ok, at, there)
	}
}

// checkDrop holds what Drop tells against what is wanted.
func checkDrop(t *testing.T, what string, l []api.Item, key string, there bool, want ...api.Item) {
	t.Helper()
	got, ok := leaf.Drop(l, key)
	if ok != there {
		t.Errorf("%s: Drop of %q: %v, not %v", what, key, ok, there)
	}
	checkItems(t, what+": Drop of "+strconv.Quote(key), got, want...)
}

// cut is leaf.Cut of what may be.
func cut(t *testing.T, l ...api.Item) [][]api.Item {
	t.Helper()
	parts, e := leaf.Cut(l...)
	if e != api.OK {
		t.Fatalf("Cut of %d items: error %d", len(l), e)
	}
	return parts
}

// checkCut holds parts to be all the items, each as many of them as fit.
func checkCut(t *testing.T, what string, parts [][]api.Item, l []api.Item) {
	t.Helper()
	at := 0
	for k, p := range parts {
		n := len(p)
		switch {
		case n == 0:
			t.Fatalf("%s: part %d has none", what, k)
		case at+n > len(l) || !slices.Equal(p, l[at:at+n]):
			t.Fatalf("%s: part %d has others than come next", what, k)
		case len(body(p...)) > 232:
			t.Fatalf("%s: part %d has %d bytes", what, k, len(body(p...)))
		case at+n < len(l) && len(body(l[at:at+n+1]...)) <= 232:
			t.Fatalf("%s: part %d could have one more than %d", what, k, n)
		}
		lay(t, p...)
		at += n
	}
	if at != len(l) {
		t.Fatalf("%s: %d of %d items", what, at, len(l))
	}
}

func TestP902FindTheExample(t *testing.T) {
	l := items("a", "c")
	checkFind(t, "the example", l, "b", 1, false)
	checkFind(t, "the example", l, "", 0, false)
	checkFind(t, "the example", l, "a", 0, true)
	checkFind(t, "the example", l, "a\x00", 1, false)
	checkFind(t, "the example", l, "c", 1, true)
	checkFind(t, "the example", l, "c\x00", 2, false)
	checkFind(t, "the example", l, "\xff", 2, false)
	checkFind(t, "no list", nil, "a", 0, false)
	checkFind(t, "no list", nil, "", 0, false)
	checkFind(t, "no items", []api.Item{}, "a", 0, false)
}

func TestP902FindEachKey(t *testing.T) {
	for from := range keys() {
		for to := from; to <= len(keys()); to++ {
			l := items(keys()[from:to]...)
			for k, key := range keys() {
				at := min(max(k-from, 0), len(l))
				checkFind(t, strconv.Itoa(from)+" to "+strconv.Itoa(to), l, key, at, k >= from && k < to)
			}
		}
	}
}

// By halves, also a list far longer than a leaf's is looked through at once.
func TestP902FindInALongList(t *testing.T) {
	l := row(1<<18, 9)
	for k, i := range l {
		checkFind(t, "a long list", l, i.Key, k, true)
		checkFind(t, "a long list", l, i.Key+"\x00", k+1, false)
		if t.Failed() {
			return
		}
	}
	checkItems(t, "the list", l, row(1<<18, 9)...)
}

func TestP902Put(t *testing.T) {
	a, b, c := item("a", "1"), item("b", "2"), item("c", "3")
	checkItems(t, "into none", leaf.Put(nil, b), b)
	checkItems(t, "into no items", leaf.Put([]api.Item{}, b), b)
	checkItems(t, "ahead", leaf.Put([]api.Item{b, c}, a), a, b, c)
	checkItems(t, "between", leaf.Put([]api.Item{a, c}, b), a, b, c)
	checkItems(t, "behind", leaf.Put([]api.Item{a, b}, c), a, b, c)
	for _, kind := range []int{api.Plain, api.Far, api.Within} {
		for k := range 3 {
			want := []api.Item{a, b, c}
			want[k] = api.Item{Key: want[k].Key, Value: "other", Kind: kind}
			checkItems(t, "in the place of one", leaf.Put([]api.Item{a, b, c}, want[k]), want...)
		}
	}
	checkItems(t, "just the same", leaf.Put([]api.Item{a, b, c}, b), a, b, c)
	checkItems(t, "a key that begins as another one", leaf.Put([]api.Item{a, b}, item("a\x00", "")), a, item("a\x00", ""), b)
	// The chapter asks nothing of the item: whoever lays it is told.
	odd := api.Item{Value: text(200), Kind: 9}
	checkItems(t, "one that may not be", leaf.Put([]api.Item{a}, odd), odd, a)
}

func TestP902Drop(t *testing.T) {
	a, b, c := item("a", "1"), item("b", "2"), item("c", "3")
	l := []api.Item{a, b, c}
	checkDrop(t, "the first one", l, "a", true, b, c)
	checkDrop(t, "the middle one", l, "b", true, a, c)
	checkDrop(t, "the last one", l, "c", true, a, b)
	for _, key := range []string{"", "0", "a\x00", "aa", "bb", "d", "A", "\xff"} {
		checkDrop(t, "none", l, key, false, a, b, c)
	}
	checkDrop(t, "of one", l[:1], "a", true)
	checkDrop(t, "of one", l[:1], "b", false, a)
	checkDrop(t, "of none", nil, "a", false)
	checkDrop(t, "of none", []api.Item{}, "", false)
	checkDrop(t, "of a Within one", []api.Item{{Key: "a", Kind: api.Within}, b}, "a", true, b)
}

// Neither writes into what was handed in, also where there is room behind it, nor do their answers share memory with it.
func TestP902PutAndDropShareNothing(t *testing.T) {
	for what, f := range map[string]func(l []api.Item) []api.Item{
		"ahead":           func(l []api.Item) []api.Item { return leaf.Put(l, item("0", "")) },
		"between":         func(l []api.Item) []api.Item { return leaf.Put(l, item("bb", "")) },
		"behind":          func(l []api.Item) []api.Item { return leaf.Put(l, item("x", "")) },
		"in its place":    func(l []api.Item) []api.Item { return leaf.Put(l, item("b", "other")) },
		"the same":        func(l []api.Item) []api.Item { return leaf.Put(l, items("b")[0]) },
		"drop the first":  func(l []api.Item) []api.Item { l, _ = leaf.Drop(l, "a"); return l },
		"drop the middle": func(l []api.Item) []api.Item { l, _ = leaf.Drop(l, "b"); return l },
		"drop the last":   func(l []api.Item) []api.Item { l, _ = leaf.Drop(l, "c"); return l },
		"drop none":       func(l []api.Item) []api.Item { l, _ = leaf.Drop(l, "bb"); return l },
	} {
		all := items("a", "b", "c", "y", "z")
		want := f(items("a", "b", "c"))
		got := f(all[:3])
		checkItems(t, what+": what was handed in", all, items("a", "b", "c", "y", "z")...)
		checkItems(t, what, got, want...)
		clear(got[:cap(got)])
		checkItems(t, what+": what was handed in, behind a change of the answer", all, items("a", "b", "c", "y", "z")...)
		got = f(all[:3])
		clear(all)
		checkItems(t, what+": the answer, behind a change of what was handed in", got, want...)
	}
}

func TestP902CutAtTheEdges(t *testing.T) {
	if parts := cut(t); len(parts) != 0 {
		t.Errorf("none: %v", parts)
	}
	for _, c := range []struct {
		what string
		l    []api.Item
		want []int
	}{
		{"one", items("a"), []int{1}},
		{"the least", least(38), []int{38}},
		{"one more of the least", least(39), []int{38, 1}},
		{"the greatest number of the least", least(256), []int{38, 38, 38, 38, 38, 38, 28}},
		{"the greatest", []api.Item{item("a"+text(31), text(96)), item("b"+text(31), text(96)), item("c"+text(31), text(96))}, []int{1, 1, 1}},
		{"just full", row(3, 77), []int{3}},
		{"just full, and one", append(row(3, 77), item("a", "")), []int{3, 1}},
		{"just full, twice", row(6, 77), []int{3, 3}},
		{"a byte too much", []api.Item{item("a", text(71)), item("b", text(71)), item("c", text(72))}, []int{2, 1}},
		{"a byte too much at once", []api.Item{item("a", text(96)), item("b", text(96)), item("c", text(22)), item("d", "")}, []int{2, 2}},
		{"one that fits behind a great one", []api.Item{item("a", text(96)), item("b", text(96)), item("c", text(21)), item("d", "")}, []int{3, 1}},
		{"a small one behind one that does not fit", []api.Item{item("a", text(96)), item("b", text(90)), item("c", text(90)), item("d", "")}, []int{2, 2}},
	} {
		parts := cut(t, c.l...)
		var got []int
		for _, p := range parts {
			got = append(got, len(p))
		}
		if !slices.Equal(got, c.want) {
			t.Errorf("%s: parts of %v, not %v", c.what, got, c.want)
		}
		checkCut(t, c.what, parts, c.l)
	}
}

func TestP902CutWhateverTheSizes(t *testing.T) {
	for size := 8; size <= 104; size++ {
		l := row(100, size)
		checkCut(t, "items of "+strconv.Itoa(size)+" bytes", cut(t, l...), l)
	}
	r := &draws{7}
	for n := range 400 {
		l := row(n, 9)
		for k := range l {
			l[k].Key += text(r.below(30))
			l[k].Value = text(r.below(97))
		}
		checkCut(t, strconv.Itoa(n)+" drawn items", cut(t, l...), l)
	}
	l := row(1<<17, 12)
	checkCut(t, "many items", cut(t, l...), l)
}

func TestP902CutOfWhatMayNotBe(t *testing.T) {
	check := func(what string, l ...api.Item) {
		t.Helper()
		if parts, e := leaf.Cut(l...); len(parts) > 0 || e != api.ErrArg {
			t.Errorf("%s: Cut: %d parts, error %d", what, len(parts), e)
		}
	}
	for _, i := range wrong() {
		check(name(i), i)
		check(name(i)+", in the middle", item("a", ""), i, item("\xff\xff", ""))
		check(name(i)+", in a later part", append(row(300, 100), i)...)
	}
	check("keys that fall", items("b", "a")...)
	check("a key twice", items("a", "a")...)
	check("keys that fall from part to part", append(row(30, 100), row(30, 100)...)...)
	check("keys that fall in a later part", append(row(300, 100), items("b", "a")...)...)
}

func TestP902CutSharesNothing(t *testing.T) {
	l := row(20, 60)
	parts := cut(t, l...)
	checkItems(t, "what was handed in", l, row(20, 60)...)
	clear(l)
	checkCut(t, "behind a change of what was handed in", parts, row(20, 60))
	for _, p := range parts {
		clear(p[:cap(p)])
		parts = parts[1:]
		l = row(20, 60)
		checkCut(t, "behind a change of the parts ahead", parts, l[20-count(parts):])
	}
}

// count tells how many items are in all parts.
func count(parts [][]api.Item) int {
	n := 0
	for _, p := range parts {
		n += len(p)
	}
	return n
}

// draws are numbers that are as good as drawn, but the same each time.
type draws struct{ x uint32 }

// below tells one from 0 on below n.
func (r *draws) below(n int) int {
	r.x = r.x*1664525 + 1013904223
	return int(r.x>>8) % n
}

// item tells one of few keys.
func (r *draws) item() api.Item {
	key := string([]byte{byte('a' + r.below(8)), byte('a' + r.below(8))})[:1+r.below(2)]
	return api.Item{Key: key, Value: text(r.below(97)), Kind: r.below(3)}
}

// checkModel holds a list against what a map has, in order; so with each key of it, and with what is cut and laid of it.
func checkModel(t *testing.T, what string, l []api.Item, m map[string]api.Item) {
	t.Helper()
	var want []api.Item
	for k, key := range slices.Sorted(maps.Keys(m)) {
		want = append(want, m[key])
		checkFind(t, what, l, key, k, true)
	}
	checkItems(t, what, l, want...)
	var back []api.Item
	for _, p := range cut(t, l...) {
		part, e := leaf.Read(lay(t, p...))
		if e != api.OK {
			t.Errorf("%s: Read: error %d", what, e)
		}
		back = append(back, part...)
	}
	checkItems(t, what+", cut, laid and read", back, want...)
}

// Whatever is put and dropped, in whatever order: a list has just what a map has, in order, and those of before stay as they were.
func TestP902AnyOrder(t *testing.T) {
	for seed := range 60 {
		r := &draws{uint32(seed)}
		var l, old []api.Item
		m, before := map[string]api.Item{}, map[string]api.Item{}
		for n := range 150 {
			what := "seed " + strconv.Itoa(seed) + ", call " + strconv.Itoa(n)
			if n%10 == 0 {
				checkModel(t, what+", the one of before", old, before)
				old, before = l, maps.Clone(m)
			}
			i := r.item()
			if r.below(5) < 3 {
				l = leaf.Put(l, i)
				m[i.Key] = i
			} else {
				_, was := m[i.Key]
				got, ok := leaf.Drop(l, i.Key)
				if ok != was {
					t.Errorf("%s: Drop of %q: %v", what, i.Key, ok)
				}
				l = got
				delete(m, i.Key)
			}
			checkModel(t, what, l, m)
			if t.Failed() {
				return
			}
		}
	}
}
