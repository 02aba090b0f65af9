package bucket_test

import (
	"slices"
	"strconv"
	"testing"

	"rootstock/api"
	"rootstock/bucket"
)

// call is a call to try: what it answers beside its error, as a list, and the error.
type call struct {
	name string
	do   func(p bucket.Pages, b bucket.Bucket) ([]any, api.Errno)
}

// reads tells calls that only read.
func reads() []call {
	var l []call
	for _, key := range []string{"k0", "k97", "k2000", "none"} {
		l = append(l, call{"Get " + key, func(p bucket.Pages, b bucket.Bucket) ([]any, api.Errno) {
			v, there, e := bucket.Get(p, b, key)
			return []any{v, there}, e
		}})
	}
	for _, path := range [][]string{{"a"}, {"a", "b"}, {"e", "f", "g"}} {
		l = append(l, call{"Find " + path[len(path)-1], func(p bucket.Pages, b bucket.Bucket) ([]any, api.Errno) {
			in, e := bucket.Find(p, b, path...)
			return []any{in}, e
		}})
	}
	return append(l,
		call{"Pairs", func(p bucket.Pages, b bucket.Bucket) ([]any, api.Errno) {
			l, e := bucket.Pairs(p, b, "a", 99)
			return []any{len(l)}, e
		}},
		call{"Pairs of one", func(p bucket.Pages, b bucket.Bucket) ([]any, api.Errno) {
			l, e := bucket.Pairs(p, b, "k232", 1)
			return []any{len(l)}, e
		}},
		call{"Names", func(p bucket.Pages, b bucket.Bucket) ([]any, api.Errno) {
			l, e := bucket.Names(p, b)
			return []any{len(l)}, e
		}},
		call{"Ids", func(p bucket.Pages, b bucket.Bucket) ([]any, api.Errno) {
			l, e := bucket.Ids(p, b)
			return []any{len(l)}, e
		}},
	)
}

// writes tells calls that change something.
func writes() []call {
	var l []call
	for _, key := range []string{"k0", "k97", "k2000", "none", "a1"} {
		for _, n := range []int{5, 96, 97, 2000} {
			l = append(l, call{"Put " + key + " " + strconv.Itoa(n), func(p bucket.Pages, b bucket.Bucket) ([]any, api.Errno) {
				to, e := bucket.Put(p, b, key, long(n))
				return []any{to}, e
			}})
		}
	}
	for _, key := range []string{"k0", "k97", "k2000"} {
		l = append(l, call{"Delete " + key, func(p bucket.Pages, b bucket.Bucket) ([]any, api.Errno) {
			to, e := bucket.Delete(p, b, key)
			return []any{to}, e
		}})
	}
	for _, name := range []string{"none", "a1"} {
		l = append(l, call{"Make " + name, func(p bucket.Pages, b bucket.Bucket) ([]any, api.Errno) {
			to, e := bucket.Make(p, b, name)
			return []any{to}, e
		}})
	}
	for _, name := range []string{"a", "d", "e"} {
		l = append(l, call{"Drop " + name, func(p bucket.Pages, b bucket.Bucket) ([]any, api.Errno) {
			to, e := bucket.Drop(p, b, name)
			return []any{to}, e
		}})
	}
	for _, path := range [][]string{{"a"}, {"a", "b"}, {"e", "f", "g"}} {
		l = append(l, call{"Set " + path[len(path)-1], func(p bucket.Pages, b bucket.Bucket) ([]any, api.Errno) {
			to, e := bucket.Set(p, b, bucket.Bucket{Seq: 8}, path...)
			return []any{to}, e
		}})
	}
	return l
}

// checkZero holds that nothing stands beside an error.
func checkZero(t *testing.T, what string, l []any) {
	t.Helper()
	for _, x := range l {
		switch x {
		case "", false, 0, bucket.Bucket{}:
		default:
			t.Errorf("%s: %v beside an error", what, x)
		}
	}
}

// owned tells a shelf of which none, all, or some pages are mine.
func owned(s *shelf, which int) *shelf {
	c := s.copy()
	for id := range c.pages {
		c.mine[id] = which == 1 || which > 1 && id%which == 0
	}
	return c
}

// Each call of Pages is told an error, one after the other: it is answered;
// what was taken is given back, and no other page changes. Where Set tells it,
// pages that are mine may have changed.
func TestP1404ErrorsOfPages(t *testing.T) {
	s, b, x := some(t)
	told := map[string]int{}
	for _, c := range append(reads(), writes()...) {
		for which := range 3 {
			good := owned(s, which)
			if _, e := c.do(good, b); e != api.OK {
				t.Fatalf("%s: error %d", c.name, e)
			}
			for name, many := range map[string]int{"Get": len(good.gets), "New": len(good.news), "Run": len(good.runs), "Set": len(good.sets)} {
				for nth := 1; nth <= many; nth++ {
					bad := owned(s, which)
					bad.name, bad.nth, bad.bad = name, nth, api.Errno(100+nth)
					l, e := c.do(bad, b)
					what := c.name + ", " + name + " " + strconv.Itoa(nth)
					check(t, what, e, api.Errno(100+nth))
					checkZero(t, what, l)
					told[name]++
					if name == "Set" {
						checkInts(t, what+": Freed", bad.gone)
						continue
					}
					checkNone(t, what, bad)
					bad.begin()
					if which == 0 {
						checkBox(t, what, bad, b, x)
					}
				}
			}
		}
	}
	for name, least := range map[string]int{"Get": 100, "New": 50, "Run": 10, "Set": 50} {
		if told[name] < least {
			t.Errorf("%s was told an error but %d times", name, told[name])
		}
	}
}

// The first one of several errors is the one that is told.
func TestP1404TheFirstError(t *testing.T) {
	s, b, _ := some(t)
	for _, c := range append(reads(), writes()...) {
		bad := owned(s, 0)
		bad.name, bad.nth, bad.bad, bad.all = "Get", 2, api.ErrSum, true
		if l, e := c.do(bad, b); e != api.OK || len(bad.gets) > 1 {
			check(t, c.name, e, api.ErrSum)
			checkZero(t, c.name, l)
			checkNone(t, c.name, bad)
		}
	}
}

// Each page is damaged in turn: a call that reads it answers ErrBroken, and one
// that does not does all.
func TestP1404DamagedPages(t *testing.T) {
	s, b, _ := some(t)
	_, ids := s.look(t, b)
	broken := 0
	for _, id := range ids {
		p := s.pages[id]
		for n, q := range []api.Page{{Kind: api.Free, Body: p.Body}, {Kind: p.Kind, Body: p.Body + "\x00"}, {Kind: p.Kind, Body: p.Body[1:]}, {Kind: api.Over, Body: ""}, {Kind: api.Leaf, Body: "\x00"}} {
			for _, c := range append(reads(), writes()...) {
				bad := s.copy()
				q.Id = id
				bad.pages[id] = q
				l, e := c.do(bad, b)
				what := c.name + ", page " + strconv.Itoa(id) + " damaged, " + strconv.Itoa(n)
				if !slices.Contains(bad.gets, id) {
					check(t, what, e, api.OK)
					continue
				}
				broken++
				check(t, what, e, api.ErrBroken)
				checkZero(t, what, l)
				checkNone(t, what, bad)
			}
		}
	}
	if broken < 500 {
		t.Errorf("a damaged page was read but %d times", broken)
	}
}

// Items that say nothing that can be are ErrBroken where what they say is asked.
func TestP1404DamagedItems(t *testing.T) {
	s, b, _ := some(t)
	for _, ref := range []string{"", "\x02", "\x02\x00\x01", "\x01\x00\x10\x00", "\x00\x00\x10\x00", "\xa0\x0f\x10\x00", "\x02\x00\xd1\x07", "\x02\x00\x10\x00\x00", long(96)} {
		c, d := with(s, b, api.Item{Key: "m", Value: ref, Kind: api.Far}, in("q", 0))
		if v, there, e := bucket.Get(c, d, "m"); v != "" || there || e != api.ErrBroken {
			t.Errorf("Get of %x: %q, %t, error %d", ref, v, there, e)
		}
		checkItem(t, c, d, api.ErrKind)
	}
	for _, said := range []string{"", "\x00", "\x00\x00", "\x00\x00\x00\x00\x00\x00\x00\x00\x00", "\x01\x00\x00\x00\x00\x00\x00\x00\x00\x00", "\xa0\x0f\x00\x00\x00\x00\x00\x00\x00\x00", "\x00\x00\x00\x00\x00\x00\x00\x00\x00\x80", "\x00\x00\x00\x00\x00\x00\x00\x00\x00\x00\x00", long(96)} {
		c, d := with(s, b, api.Item{Key: "m", Value: said, Kind: api.Within}, in("q", 0))
		if v, there, e := bucket.Get(c, d, "m"); v != "" || there || e != api.ErrKind {
			t.Errorf("Get of %x: %q, %t, error %d", said, v, there, e)
		}
		for _, path := range [][]string{{"m"}, {"m", "b"}} {
			to, e := bucket.Find(c, d, path...)
			checkNot(t, "Find", c, to, e, api.ErrBroken)
			to, e = bucket.Set(c, d, bucket.Bucket{}, path...)
			checkNot(t, "Set", c, to, e, api.ErrBroken)
		}
		to, e := bucket.Drop(c, d, "m")
		checkNot(t, "Drop", c, to, e, api.ErrBroken)
		to, e = bucket.Make(c, d, "m")
		checkNot(t, "Make", c, to, e, api.ErrDup)
		if l, e := bucket.Ids(c, d); len(l) > 0 || e != api.ErrBroken {
			t.Errorf("Ids of %x: %v, error %d", said, l, e)
		}
		if l, e := bucket.Names(c, d); !slices.Equal(l, []string{"a", "d", "e", "m", "q"}) || e != api.OK {
			t.Errorf("Names of %x: %q, error %d", said, l, e)
		}
	}
}

// checkItem holds what is told of a bucket whose item m is a value that can't be.
func checkItem(t *testing.T, s *shelf, b bucket.Bucket, kind api.Errno) {
	t.Helper()
	for _, n := range []int{5, 500} {
		to, e := bucket.Put(s, b, "m", long(n))
		checkNot(t, "Put", s, to, e, api.ErrBroken)
	}
	to, e := bucket.Delete(s, b, "m")
	checkNot(t, "Delete", s, to, e, api.ErrBroken)
	to, e = bucket.Make(s, b, "m")
	checkNot(t, "Make", s, to, e, kind)
	to, e = bucket.Drop(s, b, "m")
	checkNot(t, "Drop", s, to, e, kind)
	if l, e := bucket.Ids(s, b); len(l) > 0 || e != api.ErrBroken {
		t.Errorf("Ids: %v, error %d", l, e)
	}
	if l, e := bucket.Pairs(s, b, "", 99); len(l) > 0 || e != api.ErrBroken {
		t.Errorf("Pairs: %v, error %d", l, e)
	}
	if l, e := bucket.Pairs(s, b, "m0", 99); len(l) > 0 || e != api.OK {
		t.Errorf("Pairs behind it: %v, error %d", l, e)
	}
}

// A value that would go on behind the last page of any file can't be.
func TestP1404BehindTheLastPage(t *testing.T) {
	s, b, _ := some(t)
	c, d := with(s, b, far("m", 3999, 250), in("q", 0))
	if v, there, e := bucket.Get(c, d, "m"); v != "" || there || e != api.ErrRange {
		t.Errorf("Get: %q, %t, error %d", v, there, e)
	}
	to, e := bucket.Put(c, d, "m", "1")
	checkNot(t, "Put", c, to, e, api.ErrBroken)
	to, e = bucket.Delete(c, d, "m")
	checkNot(t, "Delete", c, to, e, api.ErrBroken)
	if l, e := bucket.Ids(c, d); len(l) > 0 || e != api.ErrBroken {
		t.Errorf("Ids: %v, error %d", l, e)
	}
	c, d = with(s, b, far("m", 3999, 200))
	if l, e := bucket.Ids(c, d); len(l) == 0 || l[len(l)-1] != 3999 || e != api.OK {
		t.Errorf("Ids: %v, error %d", l, e)
	}
}

// A value that stands in a leaf that goes with it, or in its bucket's leaf, can't be.
func TestP1404AValueInItsOwnLeaf(t *testing.T) {
	s, b := with(empty(), bucket.Bucket{}, far("m", 2, 200))
	if b.Root != 2 {
		t.Fatalf("the root is %d", b.Root)
	}
	for _, mine := range []int{0, 1} {
		c := owned(s, mine)
		to, e := bucket.Put(c, b, "m", "1")
		checkNot(t, "Put", c, to, e, api.ErrBroken)
		to, e = bucket.Delete(c, b, "m")
		checkNot(t, "Delete", c, to, e, api.ErrBroken)
	}
}

// Where there is no room, all is as it was.
func TestP1404NoRoom(t *testing.T) {
	s, b, x := some(t)
	full := 0
	for room := range 14 {
		for _, c := range writes() {
			d := s.copy()
			d.last = api.MaxPages - 1 - room
			l, e := c.do(d, b)
			if e == api.OK {
				continue
			}
			full++
			what := c.name + ", room for " + strconv.Itoa(room)
			check(t, what, e, api.ErrFull)
			checkZero(t, what, l)
			checkNone(t, what, d)
			d.begin()
			checkBox(t, what, d, b, x)
		}
	}
	if full < 100 {
		t.Errorf("there was no room but %d times", full)
	}
}

// wild is Pages one of whose methods panics.
type wild struct {
	*shelf
	name string
}

func (w wild) fall(name string) {
	if name == w.name {
		panic("no page")
	}
}

func (w wild) Get(id int) (api.Page, api.Errno) { w.fall("Get"); return w.shelf.Get(id) }

func (w wild) New(p api.Page) (int, api.Errno) { w.fall("New"); return w.shelf.New(p) }

func (w wild) Run(l ...api.Page) (int, api.Errno) { w.fall("Run"); return w.shelf.Run(l...) }

func (w wild) Set(p api.Page) api.Errno { w.fall("Set"); return w.shelf.Set(p) }

func (w wild) Mine(id int) bool { w.fall("Mine"); return w.shelf.Mine(id) }

func (w wild) Free(ids ...int) { w.fall("Free"); w.shelf.Free(ids...) }

func TestP1404PagesThatPanic(t *testing.T) {
	s, b, _ := some(t)
	var none *shelf
	for _, c := range append(reads(), writes()...) {
		for _, p := range []bucket.Pages{wild{s.copy(), "Get"}, none, wild{}} {
			l, e := c.do(p, b)
			check(t, c.name, e, api.ErrBroken)
			checkZero(t, c.name, l)
		}
		l, e := c.do(nil, b)
		check(t, c.name+" of nil", e, api.ErrArg)
		checkZero(t, c.name+" of nil", l)
	}
	for _, c := range writes() {
		for which := range 2 {
			good := owned(s, which)
			c.do(good, b)
			for name, many := range map[string]int{"New": len(good.news), "Run": len(good.runs), "Set": len(good.sets), "Mine": 1, "Free": len(good.gone)} {
				if many == 0 {
					continue
				}
				l, e := c.do(wild{owned(s, which), name}, b)
				check(t, c.name+", "+name+" panics", e, api.ErrBroken)
				checkZero(t, c.name, l)
			}
		}
	}
}

func TestP1404NoPages(t *testing.T) {
	for _, path := range [][]string{nil, {"a"}} {
		b, e := bucket.Find(nil, bucket.Bucket{Seq: 3}, path...)
		checkNot(t, "Find", empty(), b, e, api.ErrArg)
		b, e = bucket.Set(nil, bucket.Bucket{Seq: 3}, bucket.Bucket{Seq: 4}, path...)
		checkNot(t, "Set", empty(), b, e, api.ErrArg)
	}
	if l, e := bucket.Pairs(nil, bucket.Bucket{}, "", 0); len(l) > 0 || e != api.ErrArg {
		t.Errorf("Pairs: %v, error %d", l, e)
	}
}

// odd is Pages whose Run tells an id that no page has.
type odd struct {
	*shelf
	first int
}

func (o odd) Run(l ...api.Page) (int, api.Errno) { return o.first, api.OK }

func TestP1404RunTellsNoPage(t *testing.T) {
	s, b, x := some(t)
	for _, first := range []int{-5, 0, 1, 4000, 70000} {
		c := s.copy()
		to, e := bucket.Put(odd{c, first}, b, "k", long(500))
		if to != (bucket.Bucket{}) || e != api.ErrBroken || len(c.sets)+len(c.news) > 0 {
			t.Errorf("Put: %v, error %d", to, e)
		}
		c.begin()
		checkBox(t, "Put", c, b, x)
	}
}
