package walk_test

import (
	"math"
	"slices"
	"strconv"
	"testing"

	"rootstock/api"
	"rootstock/leaf"
	"rootstock/tree"
	"rootstock/walk"
)

// window tells what Between is to tell of a list.
func window(l []api.Item, from, to string, most int) []api.Item {
	var in []api.Item
	for _, i := range l {
		if i.Key >= from && (to == "" || i.Key < to) && len(in) < most {
			in = append(in, i)
		}
	}
	return in
}

// checkBetween holds Between against the items that are wanted.
func checkBetween(t *testing.T, what string, p tree.Pages, root int, l []api.Item, from, to string, most int) {
	t.Helper()
	got, e := walk.Between(p, root, from, to, most)
	if want := window(l, from, to, most); !slices.Equal(got, want) || e != api.OK {
		t.Fatalf("%s: %d from %q up to %q: %q, error %d, not %q", what, most, from, to, keysOf(got), e, keysOf(want))
	}
}

func TestP1302Between(t *testing.T) {
	for what, m := range trees(t) {
		l, _ := m.items(m.root)
		keys := around(l)
		step := 1 + len(keys)/60
		for n := 0; n < len(keys); n += step {
			for k := 0; k < len(keys); k += step {
				for _, most := range []int{math.MinInt, -1, 0, 1, 2, 3, len(l) - 1, len(l), len(l) + 1, math.MaxInt} {
					checkBetween(t, what, m, m.root, l, keys[n], keys[k], most)
				}
			}
		}
		checkNone(t, what, m.shelf)
	}
}

func TestP1302BetweenBounds(t *testing.T) {
	s := two()
	l, _ := s.items(9)
	for _, c := range []struct {
		from, to string
		most     int
		want     string
	}{
		{"", "", 9, "bdfhkm"}, {"", "", 4, "bdfh"}, {"b", "b", 9, ""}, {"b", "b\x00", 9, "b"}, {"b", "d", 9, "b"},
		{"d", "f", 9, "d"}, {"d", "f\x00", 9, "df"}, {"c", "m", 9, "dfhk"}, {"c", "m", 2, "df"}, {"m", "", 9, "m"},
		{"n", "", 9, ""}, {"h", "d", 9, ""}, {"", "a", 9, ""}, {"", "b", 9, ""}, {"", "\xff", 9, "bdfhkm"}, {"m", "m\x00", 1, "m"},
	} {
		got, e := walk.Between(s, 9, c.from, c.to, c.most)
		keys := ""
		for _, i := range got {
			keys += i.Key
		}
		if keys != c.want || e != api.OK {
			t.Errorf("%d from %q up to %q: %q, error %d, not %q", c.most, c.from, c.to, keys, e, c.want)
		}
		checkBetween(t, "by the list", s, 9, l, c.from, c.to, c.most)
	}
}

func TestP1302BetweenOfAnyShape(t *testing.T) {
	r := &draws{9}
	for n := range 200 {
		m, l := r.shape()
		keys := around(l)
		for range 50 {
			checkBetween(t, "drawn "+strconv.Itoa(n), m, m.root, l, keys[r.below(len(keys))], keys[r.below(len(keys))], r.below(len(l)+2))
		}
	}
}

// What is behind the last item that is asked for is not read.
func TestP1302BetweenReadsNoMore(t *testing.T) {
	for _, c := range []struct {
		from, to string
		most     int
		want     []int
	}{
		{"", "", 0, nil}, {"", "", -1, nil}, {"", "", 1, []int{20, 9, 4}}, {"", "", 2, []int{20, 9, 4}}, {"", "", 3, []int{20, 9, 4, 7}},
		{"", "d", 9, []int{20, 9, 4}}, {"", "c", 9, []int{20, 9, 4}}, {"g", "i", 1, []int{20, 9, 7}}, {"hh", "", 3, []int{20, 9, 7, 15, 11, 12}}, {"i", "", 3, []int{20, 15, 11, 12}},
		{"t", "", 9, []int{20, 15, 13}},
	} {
		s := three()
		walk.Between(s, 20, c.from, c.to, c.most)
		checkInts(t, strconv.Itoa(c.most)+" from "+c.from+" up to "+c.to, s.gets, c.want...)
	}
}

func TestP1302BetweenIsNew(t *testing.T) {
	s := two()
	l, _ := s.items(9)
	got, _ := walk.Between(s, 9, "", "", 6)
	clear(got[:cap(got)])
	checkBetween(t, "once more", s, 9, l, "", "", 6)
}

func TestP1302BetweenWithoutPages(t *testing.T) {
	for _, root := range []int{0, 2, -1} {
		for _, most := range []int{0, 9} {
			if l, e := walk.Between(nil, root, "a", "c", most); len(l) > 0 || e != api.ErrArg {
				t.Errorf("Between on no Pages: %q, error %d", keysOf(l), e)
			}
		}
	}
}

// A damaged page is told where one of the items that are asked for may be in
// it, and no items beside that.
func TestP1302BetweenOfDamagedPages(t *testing.T) {
	told := 0
	for what, m := range trees(t) {
		l, ids := m.items(m.root)
		if len(ids) > 20 {
			continue
		}
		for _, id := range ids {
			bad := m.with(raw(id, api.Over, ""))
			from, _ := m.reach(m.root, id)
			for _, key := range around(l) {
				at, _ := leaf.Find(l, key)
				got, e := walk.Between(bad, m.root, key, "", math.MaxInt)
				what := what + ", page " + strconv.Itoa(id) + ", from " + strconv.Quote(key)
				if at <= from || m.needs(m.root, id, key) {
					checkItems(t, what, got, nil)
					check(t, what, e, api.ErrBroken)
					told++
					continue
				}
				checkItems(t, what, got, l[at:])
				check(t, what, e, api.OK)
			}
		}
	}
	if told < 200 {
		t.Errorf("damaged pages were told but %d times", told)
	}
	bad := three().with(raw(12, api.Leaf, "no leaf"))
	for _, c := range []struct {
		from, to string
		most     int
		want     api.Errno
	}{
		{"b", "", 6, api.OK}, {"b", "", 7, api.ErrBroken}, {"b", "m", 99, api.OK}, {"o", "o", 99, api.ErrBroken},
		{"b", "z", 99, api.ErrBroken}, {"o", "", 0, api.OK}, {"r", "", 99, api.OK}, {"p", "q", 1, api.ErrBroken},
	} {
		got, e := walk.Between(bad, 20, c.from, c.to, c.most)
		check(t, strconv.Itoa(c.most)+" from "+c.from+" up to "+c.to, e, c.want)
		if e != api.OK && len(got) > 0 {
			t.Errorf("beside an error: %q", keysOf(got))
		}
	}
}

func TestP1302BetweenErrorsOfPages(t *testing.T) {
	for nth := 1; nth < 9; nth++ {
		for _, panics := range []bool{false, true} {
			s, want := three(), api.Errno(100+nth)
			s.nth, s.bad, s.panics = nth, want, panics
			if panics {
				want = api.ErrBroken
			}
			if got, e := walk.Between(s, 20, "", "", 99); got != nil || e != want {
				t.Errorf("error of page %d: %q, error %d", nth, keysOf(got), e)
			}
		}
	}
}

// It comes to an end where there are more ways down than could ever be gone:
// twelve levels of twigs all of whose children are one page.
func TestP1302BetweenEnds(t *testing.T) {
	s := of(leafOf(21, "z"))
	for n := range 11 {
		var kids []api.Kid
		for k := range 30 {
			kids = append(kids, kid(string([]byte{byte(k)}), 11+n))
		}
		s.pages[10+n] = twigOf(10+n, kids...)
	}
	if l, e := walk.Between(s, 10, "", "", math.MaxInt); len(l) > 0 || e != api.ErrBroken {
		t.Errorf("all one page: %d items, error %d", len(l), e)
	}
}

// From First by Next, and from Last by Back, all items come.
func TestP1303AllItems(t *testing.T) {
	check := func(what string, m made, l []api.Item) {
		t.Helper()
		w := walk.On(m, m.root)
		checkItems(t, what+": forth", forth(w), l)
		checkAt(t, what+": at the end", w, false, nil, 0)
		checkItems(t, what+": back", back(w), turned(l))
		checkAt(t, what+": at the end", w, false, nil, 0)
		checkItems(t, what+": forth once more", forth(w), l)
		checkNone(t, what, m.shelf)
	}
	for what, m := range trees(t) {
		l, _ := m.items(m.root)
		check(what, m, l)
	}
	for levels := 1; levels <= 11; levels++ {
		m := made{full(levels), 2}
		l, _ := m.items(2)
		if len(l) != 1<<(levels-1) {
			t.Fatalf("%d levels: %d items", levels, len(l))
		}
		check(strconv.Itoa(levels)+" levels", m, l)
	}
	r := &draws{6}
	for n := range 500 {
		m, l := r.shape()
		check("drawn "+strconv.Itoa(n), m, l)
	}
}

// Whatever is put and deleted, the cursor comes to what a list has.
func TestP1303WhateverIsPutAndDeleted(t *testing.T) {
	for seed := range 6 {
		r := &draws{uint32(seed)}
		m, root := maker{of()}, 0
		var l []api.Item
		for n := range 400 {
			what := "seed " + strconv.Itoa(seed) + ", step " + strconv.Itoa(n)
			key := strconv.Itoa(r.below(40 << seed))
			if r.below(100) < []int{85, 30, 60, 0}[n/100] {
				i := api.Item{Key: key, Value: strconv.Itoa(n), Kind: n % 3}
				root, l = put(t, m, root, i), leaf.Put(l, i)
			} else {
				to, _, e := tree.Delete(m, root, key)
				check(t, what+": Delete", e, api.OK)
				root = to
				l, _ = leaf.Drop(l, key)
			}
			w := walk.On(m, root)
			checkItems(t, what+": forth", forth(w), l)
			checkItems(t, what+": back", back(w), turned(l))
			check(t, what, w.Err(), api.OK)
		}
	}
}
