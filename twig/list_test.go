package twig_test

import (
	"math"
	"slices"
	"strconv"
	"testing"

	"rootstock/api"
	"rootstock/twig"
)

// checkFind holds what Find tells against what is wanted.
func checkFind(t *testing.T, what string, l []api.Kid, key string, at int) {
	t.Helper()
	if n := twig.Find(l, key); n != at {
		t.Errorf("%s: Find of %q: %d, not %d", what, key, n, at)
	}
}

// checkNoCut holds Cut to tell ErrArg, and no parts.
func checkNoCut(t *testing.T, what string, l ...api.Kid) {
	t.Helper()
	if parts, e := twig.Cut(l...); len(parts) > 0 || e != api.ErrArg {
		t.Errorf("%s: Cut: %d parts, error %d", what, len(parts), e)
	}
}

// cut is twig.Cut of what may be.
func cut(t *testing.T, l ...api.Kid) [][]api.Kid {
	t.Helper()
	parts, e := twig.Cut(l...)
	if e != api.OK {
		t.Fatalf("Cut of %d children: error %d", len(l), e)
	}
	return parts
}

// lengths tells how long P1002 has the parts be: as many as fit are taken from the front on, and then the last part is helped, if it has just one.
func lengths(l []api.Kid) []int {
	var ends []int
	size := bodyBytes + 1
	for _, k := range l {
		size += len(body(k)) - 1
		if size > bodyBytes {
			ends, size = append(ends, 0), len(body(k))
		}
		ends[len(ends)-1]++
	}
	if n := len(ends); n > 1 && ends[n-1] == 1 {
		ends[n-2]--
		ends[n-1]++
	}
	return ends
}

// checkCut holds parts to be all the children, of the lengths that are wanted, none of them alone, each of which may be laid.
func checkCut(t *testing.T, what string, parts [][]api.Kid, l []api.Kid) {
	t.Helper()
	var got []int
	for k, p := range parts {
		got = append(got, len(p))
		if len(p) == 0 || len(p) == 1 && len(l) > 1 || len(body(p...)) > bodyBytes {
			t.Fatalf("%s: part %d has %d children, %d bytes", what, k, len(p), len(body(p...)))
		}
		if _, e := twig.Lay(p...); e != api.OK {
			t.Fatalf("%s: part %d: Lay: error %d", what, k, e)
		}
	}
	if want := lengths(l); !slices.Equal(got, want) {
		t.Fatalf("%s: parts of %v, not %v", what, got, want)
	}
	if !slices.Equal(slices.Concat(parts...), l) {
		t.Fatalf("%s: not all children, or not in order", what)
	}
}

func TestP1002FindTheExample(t *testing.T) {
	l := []api.Kid{kid("", 5), kid("m", 7)}
	checkFind(t, "the example", l, "k", 0)
	checkFind(t, "the example", l, "", 0)
	checkFind(t, "the example", l, "l\xff", 0)
	checkFind(t, "the example", l, "m", 1)
	checkFind(t, "the example", l, "m\x00", 1)
	checkFind(t, "the example", l, "\xff", 1)
	checkFind(t, "below all", kids("b", "c"), "a", 0)
	checkFind(t, "below all", kids("b", "c"), "", 0)
	checkFind(t, "below the only one", kids("b"), "a", 0)
	checkFind(t, "above the only one", kids("b"), "c", 0)
	for _, key := range []string{"", "a", "\xff"} {
		checkFind(t, "no list", nil, key, -1)
		checkFind(t, "no children", []api.Kid{}, key, -1)
	}
}

func TestP1002FindEachKey(t *testing.T) {
	for from := range keys() {
		for to := from + 1; to <= len(keys()); to++ {
			l := kids(keys()[from:to]...)
			for k, key := range keys() {
				checkFind(t, strconv.Itoa(from)+" to "+strconv.Itoa(to), l, key, min(max(k-from, 0), len(l)-1))
			}
		}
	}
}

// The last one counts, also where keys do not rise strictly.
func TestP1002FindTheLastOne(t *testing.T) {
	l := kids("a", "a", "b", "b", "b", "c")
	for key, at := range map[string]int{"": 0, "a": 1, "aa": 1, "b": 4, "bb": 4, "c": 5, "d": 5} {
		checkFind(t, "keys that come twice", l, key, at)
	}
}

// By halves, also a list far longer than a twig's is looked through at once.
func TestP1002FindInALongList(t *testing.T) {
	l := row(1<<18, 7)
	for n, k := range l {
		checkFind(t, "a long list", l, k.Key, n)
		checkFind(t, "a long list", l, k.Key+"\x00", n)
		if t.Failed() {
			return
		}
	}
	checkKids(t, "the list", l, row(1<<18, 7)...)
}

func TestP1002Swap(t *testing.T) {
	a, b, c := kid("a", 5), kid("b", 6), kid("c", 7)
	x, y, z := kid("x", 8), kid("y", 9), kid("z", 10)
	l := []api.Kid{a, b, c}
	for _, d := range []struct {
		at   int
		with []api.Kid
		want []api.Kid
	}{
		{0, []api.Kid{x}, []api.Kid{x, b, c}},
		{1, []api.Kid{x}, []api.Kid{a, x, c}},
		{2, []api.Kid{x}, []api.Kid{a, b, x}},
		{0, []api.Kid{x, y, z}, []api.Kid{x, y, z, b, c}},
		{1, []api.Kid{x, y, z}, []api.Kid{a, x, y, z, c}},
		{2, []api.Kid{x, y, z}, []api.Kid{a, b, x, y, z}},
		{0, nil, []api.Kid{b, c}},
		{1, nil, []api.Kid{a, c}},
		{2, []api.Kid{}, []api.Kid{a, b}},
		{1, []api.Kid{b}, l},
	} {
		what := strconv.Itoa(len(d.with)) + " in the place of " + strconv.Itoa(d.at)
		checkKids(t, what, twig.Swap(l, d.at, d.with...), d.want...)
	}
	checkKids(t, "none in the place of the only one", twig.Swap(l[:1], 0))
	// The chapter asks nothing of the children: whoever lays them is told.
	odd := kid(text(40), -1)
	checkKids(t, "one that may not be", twig.Swap(l, 0, odd, a), odd, a, b, c)
}

func TestP1002SwapWhereThereIsNone(t *testing.T) {
	l := kids("a", "b", "c")
	for _, at := range []int{math.MinInt, -4, -1, 3, 4, math.MaxInt} {
		for _, with := range [][]api.Kid{nil, kids("x"), kids("x", "y")} {
			what := strconv.Itoa(len(with)) + " in the place of " + strconv.Itoa(at)
			checkKids(t, what, twig.Swap(l, at, with...), l...)
			checkKids(t, what+", of none", twig.Swap(nil, at, with...))
		}
	}
	checkKids(t, "of none", twig.Swap(nil, 0, kids("x")...))
	checkKids(t, "of no children", twig.Swap([]api.Kid{}, 0, kids("x")...))
	// Room behind a list is not a place in it.
	checkKids(t, "of a piece", twig.Swap(l[:2], 2, kids("x")...), l[:2]...)
}

// Swap writes into nothing that was handed in, also where there is room behind it, nor does its answer share memory with that.
func TestP1002SwapSharesNothing(t *testing.T) {
	for at := -1; at <= 3; at++ {
		for n := range 4 {
			what := strconv.Itoa(n) + " in the place of " + strconv.Itoa(at)
			all, with := kids("a", "b", "c", "y", "z"), kids("p", "q", "r", "s", "t")
			want := twig.Swap(kids("a", "b", "c"), at, kids("p", "q", "r")[:n]...)
			got := twig.Swap(all[:3], at, with[:n]...)
			checkKids(t, what, got, want...)
			clear(got[:cap(got)])
			checkKids(t, what+": what was handed in", all, kids("a", "b", "c", "y", "z")...)
			checkKids(t, what+": those that were handed in", with, kids("p", "q", "r", "s", "t")...)
			got = twig.Swap(all[:3], at, with[:n]...)
			clear(all)
			clear(with)
			checkKids(t, what+": the answer, behind a change of what was handed in", got, want...)
		}
	}
	l := kids("a", "b", "c")
	checkKids(t, "with itself", twig.Swap(l, 1, l...), kid("a", 300), kid("a", 300), kid("b", 299), kid("c", 298), kid("c", 298))
}

func TestP1002CutAtTheEdges(t *testing.T) {
	if parts := cut(t); len(parts) != 0 {
		t.Errorf("none: %v", parts)
	}
	full := append(row(6, 36), kid("\x01"+text(10), 9))
	for _, c := range []struct {
		what string
		l    []api.Kid
		want []int
	}{
		{"one", kids("a"), []int{1}},
		{"the empty key alone", kids(""), []int{1}},
		{"two", kids("", "a"), []int{2}},
		{"the least", least(46), []int{46}},
		{"one more of the least", least(47), []int{45, 2}},
		{"two more of the least", least(48), []int{46, 2}},
		{"the greatest number of the least", least(256), []int{46, 46, 46, 46, 46, 26}},
		{"the least, with one left in the third part", least(93), []int{46, 45, 2}},
		{"six of the greatest", row(6, 36), []int{6}},
		{"seven of the greatest", row(7, 36), []int{5, 2}},
		{"eight of the greatest", row(8, 36), []int{6, 2}},
		{"twelve of the greatest", row(12, 36), []int{6, 6}},
		{"thirteen of the greatest", row(13, 36), []int{6, 5, 2}},
		{"just full", full, []int{7}},
		{"just full, and one", append(slices.Clone(full), kid("\x02", 9)), []int{6, 2}},
		{"just full, and two", append(slices.Clone(full), kid("\x02", 9), kid("\x03", 9)), []int{7, 2}},
		{"a byte too much", append(row(6, 36), kid("\x01"+text(11), 9)), []int{5, 2}},
		{"a byte too much, and one", append(row(6, 36), kid("\x01"+text(11), 9), kid("\x02", 9)), []int{6, 2}},
		{"a small one behind one that does not fit", append(row(6, 36), kid("\x01"+text(31), 9), kid("\x02", 9), kid("\x03", 9)), []int{6, 3}},
	} {
		var got []int
		parts := cut(t, c.l...)
		for _, p := range parts {
			got = append(got, len(p))
		}
		if !slices.Equal(got, c.want) {
			t.Errorf("%s: parts of %v, not %v", c.what, got, c.want)
		}
		checkCut(t, c.what, parts, c.l)
	}
}

func TestP1002CutWhateverTheSizes(t *testing.T) {
	for size := 7; size <= 36; size++ {
		for n := 1; n < 120; n++ {
			l := row(n, size)
			checkCut(t, strconv.Itoa(n)+" children of "+strconv.Itoa(size)+" bytes", cut(t, l...), l)
		}
	}
	r := &draws{7}
	for n := range 600 {
		l := row(n, 7)
		for k := range l {
			l[k].Key += text(r.below(30))
		}
		checkCut(t, strconv.Itoa(n)+" drawn children", cut(t, l...), l)
	}
	l := row(1<<17, 12)
	checkCut(t, "many children", cut(t, l...), l)
}

func TestP1002CutOfWhatMayNotBe(t *testing.T) {
	for _, k := range wrong() {
		checkNoCut(t, name(k), k)
		checkNoCut(t, name(k)+", in the middle", kid("", 9), k, kid("\xff\xff", 9))
		checkNoCut(t, name(k)+", in a later part", append(row(300, 30), k)...)
	}
	checkNoCut(t, "keys that fall", kids("b", "a")...)
	checkNoCut(t, "a key twice", kids("a", "a")...)
	checkNoCut(t, "no key twice", kids("", "")...)
	checkNoCut(t, "keys that fall from part to part", append(row(30, 30), row(30, 30)...)...)
	checkNoCut(t, "keys that fall in a later part", append(row(300, 30), kids("b", "a")...)...)
}

func TestP1002CutSharesNothing(t *testing.T) {
	l := row(61, 30)
	parts := cut(t, l...)
	checkKids(t, "what was handed in", l, row(61, 30)...)
	clear(l)
	checkCut(t, "behind a change of what was handed in", parts, row(61, 30))
	want := cut(t, row(61, 30)...)
	for k, p := range parts {
		checkKids(t, "behind a change of the parts ahead", p, want[k]...)
		clear(p[:cap(p)])
	}
	for k := len(want) - 1; k >= 0; k-- {
		checkKids(t, "behind a change of the parts behind", want[k], cut(t, row(61, 30)...)[k]...)
		clear(want[k][:cap(want[k])])
	}
}

// draws are numbers that are as good as drawn, but the same each time.
type draws struct{ x uint32 }

// below tells one from 0 on below n.
func (r *draws) below(n int) int {
	r.x = r.x*1664525 + 1013904223
	return int(r.x>>8) % n
}

// down tells by Find which child a key stands below, among the parts of a list, first the part by the least keys of all.
func down(parts [][]api.Kid, key string) api.Kid {
	var tops []api.Kid
	for k, p := range parts {
		tops = append(tops, kid(p[0].Key, 2+k))
	}
	p := parts[twig.Find(tops, key)]
	return p[twig.Find(p, key)]
}

// Children are swapped for more, or for fewer, as a tree does that grows and shrinks: they stay in order, and behind Cut, Lay and Read each key stands below the same child as in the whole list.
func TestP1002AnyOrder(t *testing.T) {
	for seed := range 40 {
		r := &draws{uint32(seed)}
		l := []api.Kid{kid("", 2)}
		for n := range 150 {
			what := "seed " + strconv.Itoa(seed) + ", call " + strconv.Itoa(n)
			key := text(32)[r.below(20):][:1+r.below(12)]
			at := twig.Find(l, key)
			old, was := slices.Clone(l), l
			switch {
			case r.below(3) == 0 && at > 0:
				l = twig.Swap(l, at)
				checkKids(t, what, l, slices.Delete(old, at, at+1)...)
			case l[at].Key != key:
				l = twig.Swap(l, at, l[at], kid(key, 3+n))
				checkKids(t, what, l, slices.Insert(old, at+1, kid(key, 3+n))...)
			default:
				l = twig.Swap(l, at, kid(key, 3+n))
				old[at].Page = 3 + n
				checkKids(t, what, l, old...)
			}
			if at > 0 && was[at].Key > key || at+1 < len(was) && was[at+1].Key <= key {
				t.Errorf("%s: %q does not stand below child %d", what, key, at)
			}
			checkParts(t, what, l)
			if t.Failed() {
				return
			}
		}
	}
}

// checkParts holds a list that is cut, laid and read against the whole one.
func checkParts(t *testing.T, what string, l []api.Kid) {
	t.Helper()
	var back [][]api.Kid
	for _, p := range cut(t, l...) {
		b, _ := twig.Lay(p...)
		part, e := twig.Read(b)
		if e != api.OK {
			t.Errorf("%s: Read: error %d", what, e)
		}
		back = append(back, part)
	}
	checkCut(t, what, back, l)
	for _, key := range append(keys(), text(5), text(12)[3:]) {
		if got, want := down(back, key), l[twig.Find(l, key)]; got != want {
			t.Errorf("%s: %q stands below %v, not %v", what, key, got, want)
		}
	}
}
