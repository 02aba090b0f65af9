package bucket_test

import (
	"math"
	"slices"
	"strconv"
	"strings"
	"testing"

	"rootstock/api"
	"rootstock/big"
	"rootstock/bucket"
	"rootstock/tree"
)

func TestP1403Find(t *testing.T) {
	s, b, x := some(t)
	b.Seq = 77
	if in, e := bucket.Find(s, b); in != b || e != api.OK || len(s.gets) > 0 {
		t.Errorf("Find of none: %v, error %d, read %v", in, e, s.gets)
	}
	if in, e := bucket.Find(s, bucket.Bucket{Root: 9999, Seq: -1}); in != (bucket.Bucket{Root: 9999, Seq: -1}) || e != api.OK {
		t.Errorf("Find of none: %v, error %d", in, e)
	}
	for _, path := range x.deep()[1:] {
		in, e := bucket.Find(s, b, path...)
		if e != api.OK {
			t.Errorf("Find of %q: error %d", path, e)
		}
		checkFlat(t, strings.Join(path, "/"), s, in, x.at(path...))
		step := b
		for _, name := range path {
			step, _ = bucket.Find(s, step, name)
		}
		if step != in {
			t.Errorf("Find of %q: %v, step by step %v", path, in, step)
		}
	}
	for _, v := range []struct {
		path string
		e    api.Errno
	}{
		{"b", api.ErrNone}, {"b/a", api.ErrNone}, {"a/c", api.ErrNone}, {"a/b/b", api.ErrNone}, {"e/f/g/h", api.ErrNone}, {"d/d/d/d", api.ErrNone}, {"d/d", api.ErrNone},
		{"k0", api.ErrKind}, {"k2000", api.ErrKind}, {"k0/a", api.ErrKind}, {"a/b/n0", api.ErrKind}, {"a/b/n37/a", api.ErrKind}, {"e/f/g/\x00", api.ErrKind},
		{"a/b/c/d/e", api.ErrArg}, {"e/f/g/h/i", api.ErrArg}, {"k0/a/a/a/a", api.ErrArg},
	} {
		path := strings.Split(v.path, "/")
		if in, e := bucket.Find(s, b, path...); in != (bucket.Bucket{}) || e != v.e {
			t.Errorf("Find of %q: %v, error %d, not %d", path, in, e, v.e)
		}
		for _, n := range []int{2, 0} {
			c := s.copy()
			to, e := bucket.Set(c, b, bucket.Bucket{Root: n, Seq: 3}, path...)
			checkNot(t, "Set of "+v.path, c, to, e, v.e)
		}
	}
}

// Names are asked ahead of the tree, all of them.
func TestP1403WrongNames(t *testing.T) {
	s, b, _ := some(t)
	s.name, s.nth, s.all, s.bad = "Get", 1, true, api.ErrOff
	for _, name := range wrongNames() {
		for _, path := range [][]string{{name}, {name, "b"}, {"a", name}, {"z", name}, {"k0", name}, {"a", "b", "c", name}} {
			in, e := bucket.Find(s, b, path...)
			checkNot(t, "Find", s, in, e, api.ErrArg)
			in, e = bucket.Set(s, b, bucket.Bucket{}, path...)
			checkNot(t, "Set", s, in, e, api.ErrArg)
		}
	}
	checkInts(t, "read", s.gets)
	in, e := bucket.Find(s, b, "a", "z")
	checkNot(t, "Find", s, in, e, api.ErrOff)
}

func TestP1403Set(t *testing.T) {
	s, b, x := some(t)
	b.Seq, x.seq = 21, 21
	for _, in := range []bucket.Bucket{{}, {Root: 3, Seq: 9}, {Root: 70000, Seq: -1}} {
		if to, e := bucket.Set(s, b, in); to != in || e != api.OK || len(s.gets) > 0 {
			t.Errorf("Set of none: %v, error %d, read %v", to, e, s.gets)
		}
	}
	for which := range 3 {
		for _, path := range x.deep()[1:] {
			c, y := s.copy(), x.copy()
			for id := range c.pages {
				c.mine[id] = which == 1 || which == 2 && id%2 == 0
			}
			in, _ := bucket.Find(c, b, path...)
			in.Seq = 1 << 50
			_, ids := c.look(t, b)
			to := into(t, c, b, in, path...)
			y.at(path...).seq = 1 << 50
			what := "Set of " + strings.Join(path, "/")
			checkBox(t, what, c, to, y)
			checkLess(t, what, c, ids, to)
			if which == 0 {
				checkBox(t, what+", the old one", c, b, x)
			}
			c.old()
			_, ids = c.look(t, to)
			in, _ = bucket.Find(c, to, path...)
			for n := range 30 { // trees that grow below
				in = put(t, c, in, y.at(path...), "more"+strconv.Itoa(n), long(n*20))
				to = into(t, c, to, in, path...)
				checkBox(t, what, c, to, y)
			}
		}
	}
}

// What is set is such as can be read again.
func TestP1403SetOfWhatCantBe(t *testing.T) {
	s, b, x := some(t)
	for _, in := range []bucket.Bucket{{Root: 1}, {Root: -1}, {Root: 4000}, {Root: 65536 + 2}, {Seq: -1}, {Root: 2, Seq: math.MinInt}} {
		to, e := bucket.Set(s, b, in, "a", "b")
		checkNot(t, "Set", s, to, e, api.ErrArg)
	}
	checkInts(t, "read", s.gets)
	to := into(t, s, b, bucket.Bucket{Seq: math.MaxInt}, "a", "b")
	x.at("a").boxes["b"] = &box{seq: math.MaxInt}
	checkBox(t, "Set", s, to, x)
}

func TestP1403Pairs(t *testing.T) {
	s, b, x := some(t)
	for _, path := range x.deep() {
		in, _ := bucket.Find(s, b, path...)
		all := pairsOf(x.at(path...))
		froms := []string{"", "\x00", "a", "e", "k", "k1", "k96", "k960", "z", "n", "n50", "n505", strings.Repeat("n", 40), "\xff"}
		for _, from := range froms {
			for _, most := range []int{math.MinInt, -1, 0, 1, 2, 3, 7, 59, 60, 61, math.MaxInt} {
				var want []api.Pair
				for _, v := range all {
					if v.Key >= from && len(want) < most {
						want = append(want, v)
					}
				}
				got, e := bucket.Pairs(s, in, from, most)
				if !slices.Equal(got, want) || e != api.OK {
					t.Errorf("Pairs of %q from %q, %d: %d of them, error %d", path, from, most, len(got), e)
				}
			}
		}
	}
	checkNone(t, "Pairs", s)
}

// Pairs reads no more than it is to tell: buckets do not count, and what
// stands behind the last value is not read.
func TestP1403PairsReadsWhatItTells(t *testing.T) {
	s, b, x := empty(), bucket.Bucket{}, newBox()
	for n := range 200 {
		b = mk(t, s, b, x, "b"+strconv.Itoa(1000+n))
	}
	b = put(t, s, put(t, s, b, x, "a", long(300)), x, "c", long(300))
	s.old()
	checkBox(t, "many buckets", s, b, x)
	want := pairsOf(x)
	if l, e := bucket.Pairs(s, b, "", 2); !slices.Equal(l, want) || e != api.OK {
		t.Errorf("Pairs: %d of them, error %d", len(l), e)
	}
	s.begin()
	if l, e := bucket.Pairs(s, b, "", 1); !slices.Equal(l, want[:1]) || e != api.OK {
		t.Errorf("Pairs: %d of them, error %d", len(l), e)
	}
	if len(s.gets) > 8 {
		t.Errorf("Pairs of the first one reads %d pages", len(s.gets))
	}
	s.begin()
	bucket.Pairs(s, b, "", 0)
	checkInts(t, "read", s.gets)
}

func TestP1403Names(t *testing.T) {
	s, b, x := some(t)
	for n := range 100 {
		name := strconv.Itoa(n * 37 % 100)
		b = mk(t, s, b, x, strings.Repeat("x", n%30)+name)
		if n%3 == 0 {
			b = put(t, s, b, x, "v/"+name, long(n))
		}
	}
	checkBox(t, "Names", s, b, x)
	if l, e := bucket.Names(s, bucket.Bucket{}); len(l) > 0 || e != api.OK {
		t.Errorf("Names of none: %q, error %d", l, e)
	}
}

func TestP1403Ids(t *testing.T) {
	if l, e := bucket.Ids(empty(), bucket.Bucket{Seq: 9}); len(l) > 0 || e != api.OK {
		t.Errorf("Ids of none: %v, error %d", l, e)
	}
	s, b, x := some(t)
	checkBox(t, "Ids", s, b, x)
	if l, _ := bucket.Ids(s, b); len(l) < 50 {
		t.Errorf("Ids tells but %d pages", len(l))
	}
	checkNone(t, "Ids", s)
}

// far tells the item of a value that stands in pages of its own.
func far(key string, first, n int) api.Item {
	ref, _ := big.Ref(first, n)
	return api.Item{Key: key, Value: ref, Kind: api.Far}
}

// in tells the item of a bucket.
func in(name string, root int) api.Item {
	return api.Item{Key: name, Value: bucket.Lay(bucket.Bucket{Root: root}), Kind: api.Within}
}

// with puts items past the bucket's own calls.
func with(s *shelf, b bucket.Bucket, l ...api.Item) (*shelf, bucket.Bucket) {
	c := s.copy()
	for _, i := range l {
		b.Root, _ = tree.Put(c, b.Root, i)
	}
	return c.old(), b
}

// Where a page comes twice, wherever, that is told by Ids, and by Drop of what is around it.
func TestP1403IdsTwice(t *testing.T) {
	s, b, _ := some(t)
	ab, _ := bucket.Find(s, b, "a", "b")
	e, _ := bucket.Find(s, b, "e")
	i, _, _ := tree.Get(s, b.Root, "k464")
	first := half(i.Value)
	abIds, _ := tree.Ids(s, ab.Root)
	for what, l := range map[string][]api.Item{
		"one value for two keys":           {far("m", first, 464)},
		"a value's last page":              {far("m", first+1, 200)},
		"a value and the next one":         {far("m", first+1, 464)},
		"a value in a bucket's tree":       {far("m", ab.Root, 200)},
		"a value in a leaf of a bucket":    {far("m", abIds[0], 200)},
		"one bucket for two names":         {in("m", ab.Root)},
		"a bucket in a leaf of another":    {in("m", abIds[len(abIds)-1])},
		"a bucket that is twice, and deep": {in("m", e.Root)},
		"twice itself, new names":          {far("m", 3500, 200), far("n", 3500, 200)},
	} {
		c, d := with(s, b, l...)
		if l, e := bucket.Ids(c, d); len(l) > 0 || e != api.ErrBroken {
			t.Errorf("%s: Ids: %v, error %d", what, l, e)
		}
		outer, _ := with(c, bucket.Bucket{}, in("q", d.Root))
		to, e := bucket.Drop(outer, bucket.Bucket{Root: outer.last}, "q")
		checkNot(t, what+": Drop", outer, to, e, api.ErrBroken)
	}
}

// Buckets that are within themselves have no end.
func TestP1403IdsOfARing(t *testing.T) {
	s, b, x := empty(), bucket.Bucket{}, newBox()
	b = mk(t, s, b, x, "a")
	i, _, _ := tree.Get(s, b.Root, "a")
	i.Value = bucket.Lay(b)
	root, _ := tree.Put(s, b.Root, i)
	if root != b.Root {
		t.Fatalf("the root is %d", root)
	}
	for _, mine := range []bool{true, false} {
		if s.begin(); !mine {
			s.old()
		}
		if l, e := bucket.Ids(s, b); len(l) > 0 || e != api.ErrBroken {
			t.Errorf("Ids: %v, error %d", l, e)
		}
		to, e := bucket.Drop(s, b, "a")
		checkNot(t, "Drop", s, to, e, api.ErrBroken)
		for _, path := range [][]string{{"a", "a"}, {"a", "a", "a"}, {"a", "a", "a", "a"}} {
			if in, e := bucket.Find(s, b, path...); in != b || e != api.OK {
				t.Errorf("Find: %v, error %d", in, e)
			}
			s.begin()
			to, e := bucket.Set(s, b, bucket.Bucket{Seq: 5}, path...)
			checkNot(t, "Set", s, to, e, api.ErrBroken)
		}
	}
}

// Buckets within each other, many more than a path has names.
func TestP1403Deep(t *testing.T) {
	s, b := empty(), bucket.Bucket{}
	for range 3000 {
		s, b = deeper(s, b)
	}
	l, e := bucket.Ids(s, b)
	if len(l) != 3000 || e != api.OK {
		t.Errorf("Ids: %d pages, error %d", len(l), e)
	}
	s.begin()
	to, e := bucket.Drop(s, b, "a")
	if to != (bucket.Bucket{}) || e != api.OK || !slices.Equal(s.freed(), l) {
		t.Errorf("Drop: %v, error %d, Freed %d pages", to, e, len(s.gone))
	}
}

// deeper tells a bucket around another one.
func deeper(s *shelf, b bucket.Bucket) (*shelf, bucket.Bucket) {
	root, _ := tree.Put(s, 0, in("a", b.Root))
	return s, bucket.Bucket{Root: root}
}
