package bucket_test

import (
	"math"
	"slices"
	"strconv"
	"strings"
	"testing"

	"rootstock/api"
	"rootstock/bucket"
)

func TestP1401Lay(t *testing.T) {
	for b, want := range map[bucket.Bucket]string{
		{}:                          "\x00\x00" + "\x00\x00\x00\x00\x00\x00\x00\x00",
		{Root: 2, Seq: 1}:           "\x02\x00" + "\x01\x00\x00\x00\x00\x00\x00\x00",
		{Root: 3999, Seq: 0x1234}:   "\x9f\x0f" + "\x34\x12\x00\x00\x00\x00\x00\x00",
		{Root: 258, Seq: 1 << 40}:   "\x02\x01" + "\x00\x00\x00\x00\x00\x01\x00\x00",
		{Seq: math.MaxInt}:          "\x00\x00" + "\xff\xff\xff\xff\xff\xff\xff\x7f",
		{Root: 3, Seq: -2}:          "\x03\x00" + "\xfe\xff\xff\xff\xff\xff\xff\xff",
		{Root: 1}:                   "\x01\x00" + "\x00\x00\x00\x00\x00\x00\x00\x00",
		{Root: 65535}:               "\xff\xff" + "\x00\x00\x00\x00\x00\x00\x00\x00",
		{Root: 65536}:               "",
		{Root: -1, Seq: 5}:          "",
		{Root: math.MinInt, Seq: 5}: "",
	} {
		if got := bucket.Lay(b); got != want {
			t.Errorf("%v: %x, not %x", b, got, want)
		}
	}
}

func TestP1401Read(t *testing.T) {
	for root := range 65536 {
		for _, seq := range []int{0, 1, 255, 256, 1 << 62, math.MaxInt, -1, math.MinInt} {
			b, e := bucket.Read(bucket.Lay(bucket.Bucket{Root: root, Seq: seq}))
			want, wrong := bucket.Bucket{Root: root, Seq: seq}, api.OK
			if seq < 0 || root == 1 || root > 3999 {
				want, wrong = bucket.Bucket{}, api.ErrForm
			}
			if b != want || e != wrong {
				t.Fatalf("%d, %d: %v, error %d", root, seq, b, e)
			}
		}
	}
	s := bucket.Lay(bucket.Bucket{Root: 300, Seq: 7})
	for n := range len(s) {
		checkForm(t, s[:n])
		checkForm(t, s[n+1:])
	}
	checkForm(t, s+"\x00")
	checkForm(t, s+s)
	checkForm(t, "\x00"+s)
	checkForm(t, strings.Repeat("\x00", 100000))
}

// checkForm holds that a text is no bucket's.
func checkForm(t *testing.T, s string) {
	t.Helper()
	if b, e := bucket.Read(s); b != (bucket.Bucket{}) || e != api.ErrForm {
		t.Errorf("%d bytes: %v, error %d", len(s), b, e)
	}
}

func TestP1401Path(t *testing.T) {
	full := strings.Repeat("x", 32)
	for s, want := range map[string][]string{
		"":                                 {},
		"a":                                {"a"},
		"a/b":                              {"a", "b"},
		"b/a/b":                            {"b", "a", "b"},
		"a/b/c/d":                          {"a", "b", "c", "d"},
		"\x00/\xff \n/\xc3\xa4/..":         {"\x00", "\xff \n", "\xc3\xa4", ".."},
		full:                               {full},
		full + "/" + full + "/y":           {full, full, "y"},
		strings.Repeat(full+"/", 3) + full: {full, full, full, full},
	} {
		if got, e := bucket.Path(s); !slices.Equal(got, want) || e != api.OK {
			t.Errorf("%q: %q, error %d", s, got, e)
		}
	}
	for _, s := range []string{"/", "//", "/a", "a/", "a//b", "a/b/c/d/e", "a/b/c/d/", "/a/b/c/d", "a/b/c//", full + "x", "a/" + full + "x", "a/b/c/x" + full, strings.Repeat("a/", 50000), strings.Repeat("/", 50000), strings.Repeat("a", 50000)} {
		if got, e := bucket.Path(s); len(got) > 0 || e != api.ErrArg {
			t.Errorf("%.50q: %.50q, error %d", s, got, e)
		}
	}
}

// lengths are those of values around where something turns.
var lengths = []int{0, 1, 95, 96, 97, 231, 232, 233, 463, 464, 465, 1999, 2000}

// keys are some that may be.
var keys = []string{"a", "/", "a/b", "\x00", "\xff", strings.Repeat("k", 32), "k"}

func TestP1402ValuesOfEachLength(t *testing.T) {
	for _, n := range lengths {
		s, b, x := empty(), bucket.Bucket{Seq: 7}, newBox()
		x.seq = 7
		for _, key := range keys {
			s.begin()
			b = put(t, s, b, x, key, long(n))
			runs := 0
			if n > 96 {
				runs = 1
			}
			if len(s.runs) != runs || runs > 0 && len(s.runs[0]) != (n+231)/232 {
				t.Fatalf("%d bytes: Run of %v", n, s.runs)
			}
			for _, run := range s.runs {
				checkRun(t, s, run, long(n))
			}
		}
		checkBox(t, strconv.Itoa(n)+" bytes", s, b, x)
	}
}

// checkRun holds the pages of a value.
func checkRun(t *testing.T, s *shelf, run []int, value string) {
	t.Helper()
	for n, id := range run {
		want := api.Page{Kind: api.Over, Id: id, Tx: 9, Body: value[n*232 : min(n*232+232, len(value))]}
		if s.pages[id] != want {
			t.Errorf("page %d of %d bytes: %v", n, len(value), s.pages[id])
		}
	}
}

func TestP1402Get(t *testing.T) {
	s, b, x := some(t)
	for _, key := range []string{"k", "k0/", "b", "l", "\x00", "n1", "k2000k", strings.Repeat("k", 32)} {
		if v, there, e := bucket.Get(s, b, key); v != "" || there || e != api.OK {
			t.Errorf("Get of %q, which is not there: %q, %t, error %d", key, v, there, e)
		}
		if v, there, e := bucket.Get(s, bucket.Bucket{Seq: 9}, key); v != "" || there || e != api.OK {
			t.Errorf("Get of %q in none: %q, %t, error %d", key, v, there, e)
		}
	}
	for _, name := range []string{"a", "d", "e"} {
		if v, there, e := bucket.Get(s, b, name); v != "" || there || e != api.ErrKind {
			t.Errorf("Get of the bucket %q: %q, %t, error %d", name, v, there, e)
		}
	}
	checkNone(t, "Get", s)
	checkBox(t, "Get", s, b, x)
}

// wrongKeys are no keys.
func wrongKeys() []string {
	return []string{"", strings.Repeat("k", 33), strings.Repeat("k", 1000)}
}

// wrongNames are no names.
func wrongNames() []string {
	return append(wrongKeys(), "/", "a/b", "/a", "a/", strings.Repeat("k", 31)+"/")
}

// Key, then value, then the tree: what is asked first is told, whatever the rest is.
func TestP1402WrongKeysAndValues(t *testing.T) {
	s, b, _ := some(t)
	s.name, s.nth, s.all, s.bad = "Get", 1, true, api.ErrOff
	for _, p := range []bucket.Pages{s, nil} {
		for _, key := range wrongKeys() {
			for _, n := range []int{0, 97, 2001} {
				to, e := bucket.Put(p, b, key, long(n))
				checkNot(t, "Put", s, to, e, api.ErrArg)
			}
			to, e := bucket.Delete(p, b, key)
			checkNot(t, "Delete", s, to, e, api.ErrArg)
			if v, there, e := bucket.Get(p, b, key); v != "" || there || e != api.ErrArg {
				t.Errorf("Get of %q: %q, %t, error %d", key, v, there, e)
			}
		}
		for _, name := range wrongNames() {
			to, e := bucket.Make(p, b, name)
			checkNot(t, "Make", s, to, e, api.ErrArg)
			to, e = bucket.Drop(p, b, name)
			checkNot(t, "Drop", s, to, e, api.ErrArg)
		}
		for _, key := range append(keys, "k0", "d") {
			for _, n := range []int{2001, 2002, 70000} {
				to, e := bucket.Put(p, b, key, long(n))
				checkNot(t, "Put", s, to, e, api.ErrLong)
			}
		}
	}
	checkInts(t, "read", s.gets)
	for _, name := range []string{"a", "k0", "q"} {
		to, e := bucket.Put(s, b, name, "1")
		checkNot(t, "Put", s, to, e, api.ErrOff)
		to, e = bucket.Make(s, b, name)
		checkNot(t, "Make", s, to, e, api.ErrOff)
	}
}

// A value that takes the place of another one, of each length by each: its
// pages are given back, and what the old bucket says stays.
func TestP1402Replace(t *testing.T) {
	for _, from := range lengths {
		for _, to := range lengths {
			for _, mine := range []bool{false, true} {
				s, x := empty(), newBox()
				b := put(t, s, bucket.Bucket{Seq: 3}, x, "k", long(from))
				x.seq = 3
				b.Seq = 3
				old, ids := s.look(t, b)
				if s.begin(); !mine {
					s.old()
				}
				now := put(t, s, b, x, "k", long(to))
				what := strconv.Itoa(from) + " bytes, then " + strconv.Itoa(to)
				checkBox(t, what, s, now, x)
				checkLess(t, what, s, ids, now)
				if !mine {
					checkBox(t, what+", the old one", s, b, old)
				}
				s.begin()
				none, e := bucket.Delete(s, now, "k")
				if none != (bucket.Bucket{Seq: 3}) || e != api.OK {
					t.Errorf("%s: Delete: %v, error %d", what, none, e)
				}
				_, ids = s.look(t, now)
				checkInts(t, what+": Freed", s.freed(), slices.Sorted(slices.Values(ids))...)
			}
		}
	}
}

// checkLess holds that just those pages of the old ones went that the new
// bucket has not, and that it has all that were taken.
func checkLess(t *testing.T, what string, s *shelf, old []int, now bucket.Bucket) {
	t.Helper()
	_, ids := s.look(t, now)
	var less, more []int
	for _, id := range slices.Sorted(slices.Values(old)) {
		if !slices.Contains(ids, id) {
			less = append(less, id)
		}
	}
	for _, id := range slices.Sorted(slices.Values(ids)) {
		if !slices.Contains(old, id) {
			more = append(more, id)
		}
	}
	checkInts(t, what+": Freed", s.freed(), less...)
	checkInts(t, what+": taken", s.taken(), more...)
	for _, id := range s.sets {
		if !slices.Contains(ids, id) {
			t.Errorf("%s: Set of page %d for nothing", what, id)
		}
	}
	if len(s.wrong) > 0 {
		t.Errorf("%s: %v", what, s.wrong)
	}
}

func TestP1402Delete(t *testing.T) {
	s, b, x := some(t)
	for _, key := range []string{"k", "b", "z", strings.Repeat("k", 32)} {
		to, e := bucket.Delete(s, b, key)
		checkNot(t, "Delete of what is not there", s, to, e, api.ErrNone)
		to, e = bucket.Delete(s, bucket.Bucket{Seq: 4}, key)
		checkNot(t, "Delete of what is not there, of none", s, to, e, api.ErrNone)
	}
	for _, name := range []string{"a", "d", "e"} {
		to, e := bucket.Delete(s, b, name)
		checkNot(t, "Delete of a bucket", s, to, e, api.ErrKind)
	}
	for key := range x.values {
		c, y := s.copy(), x.copy()
		_, ids := c.look(t, b)
		to, e := bucket.Delete(c, b, key)
		check(t, "Delete of "+key, e, api.OK)
		delete(y.values, key)
		checkLess(t, "Delete of "+key, c, ids, to)
		checkBox(t, "Delete of "+key, c, to, y)
		checkBox(t, "Delete of "+key+", the old one", c, b, x)
	}
}

func TestP1402PutKind(t *testing.T) {
	s, b, x := some(t)
	for _, name := range []string{"a", "d", "e"} {
		for _, n := range []int{0, 96, 97, 2000} {
			to, e := bucket.Put(s, b, name, long(n))
			checkNot(t, "Put", s, to, e, api.ErrKind)
			checkInts(t, "taken", s.taken())
		}
	}
	checkBox(t, "Put", s, b, x)
}

func TestP1402Make(t *testing.T) {
	s, b, x := some(t)
	for _, name := range []string{"a", "d", "e"} {
		to, e := bucket.Make(s, b, name)
		checkNot(t, "Make of one that is there", s, to, e, api.ErrDup)
	}
	for _, name := range []string{"k0", "k97", "k2000"} {
		to, e := bucket.Make(s, b, name)
		checkNot(t, "Make in the place of a value", s, to, e, api.ErrKind)
	}
	b.Seq, x.seq = 11, 11
	for _, name := range []string{"A", "\x00", "z", strings.Repeat("k", 32), "k"} {
		s.old()
		was, y := b, x.copy()
		_, ids := s.look(t, b)
		b = mk(t, s, b, x, name)
		checkLess(t, "Make", s, ids, b)
		checkBox(t, "Make", s, b, x)
		checkBox(t, "Make, the old one", s, was, y)
		if in, e := bucket.Find(s, b, name); in != (bucket.Bucket{}) || e != api.OK {
			t.Errorf("Find of %q: %v, error %d", name, in, e)
		}
	}
}

func TestP1402Drop(t *testing.T) {
	s, b, x := some(t)
	for _, name := range []string{"b", "z", "A"} {
		to, e := bucket.Drop(s, b, name)
		checkNot(t, "Drop of what is not there", s, to, e, api.ErrNone)
	}
	for _, name := range []string{"k0", "k97", "k2000"} {
		to, e := bucket.Drop(s, b, name)
		checkNot(t, "Drop of a value", s, to, e, api.ErrKind)
	}
	to, e := bucket.Drop(s, bucket.Bucket{}, "a")
	checkNot(t, "Drop of what is not there, of none", s, to, e, api.ErrNone)
	b.Seq, x.seq = 12, 12
	for _, mine := range []bool{false, true} {
		for name := range x.boxes {
			c, y := s.copy(), x.copy()
			for id := range c.pages {
				c.mine[id] = mine
			}
			_, ids := c.look(t, b)
			to, e := bucket.Drop(c, b, name)
			check(t, "Drop of "+name, e, api.OK)
			delete(y.boxes, name)
			checkLess(t, "Drop of "+name, c, ids, to)
			checkBox(t, "Drop of "+name, c, to, y)
			if !mine {
				checkBox(t, "Drop of "+name+", the old one", c, b, x)
			}
		}
	}
}
