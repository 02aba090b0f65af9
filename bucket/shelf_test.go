package bucket_test

import (
	"maps"
	"slices"
	"strconv"
	"strings"
	"testing"

	"rootstock/api"
	"rootstock/bucket"
	"rootstock/tree"
)

// shelf has pages in memory. It notes what is done, and whatever may not be.
type shelf struct {
	pages map[int]api.Page
	mine  map[int]bool
	last  int   // the greatest id so far
	spare []int // ids that New may take again
	gets  []int
	news  []int
	runs  [][]int
	sets  []int
	gone  []int
	wrong []string
	// The call of that name that is told an error, counted from 1 on.
	name string
	nth  int
	bad  api.Errno
	all  bool // and all behind it
}

func empty() *shelf {
	return &shelf{pages: map[int]api.Page{}, mine: map[int]bool{}, last: 1}
}

// fails tells whether a call of that name is told the error.
func (s *shelf) fails(name string) bool {
	if name != s.name {
		return false
	}
	s.nth--
	return s.nth == 0 || s.nth < 0 && s.all
}

// note notes that something was done that may not be.
func (s *shelf) note(what string, id int) { s.wrong = append(s.wrong, what+" "+strconv.Itoa(id)) }

func (s *shelf) Get(id int) (api.Page, api.Errno) {
	s.gets = append(s.gets, id)
	if s.fails("Get") {
		return s.pages[id], s.bad // the page stands beside the error, and is none all the same
	}
	p, ok := s.pages[id]
	if !ok {
		return api.Page{}, api.ErrRange
	}
	return p, api.OK
}

func (s *shelf) New(p api.Page) (int, api.Errno) {
	if s.fails("New") {
		return 77, s.bad
	}
	id := s.last + 1
	if len(s.spare) > 0 {
		id, s.spare = s.spare[0], s.spare[1:]
	}
	if id >= api.MaxPages {
		return 77, api.ErrFull
	}
	s.take(id, p)
	s.news = append(s.news, id)
	return id, api.OK
}

func (s *shelf) Run(l ...api.Page) (int, api.Errno) {
	if s.fails("Run") {
		return 77, s.bad
	}
	if s.last+len(l) >= api.MaxPages {
		return 77, api.ErrFull
	}
	first, ids := s.last+1, []int{}
	for n, p := range l {
		s.take(first+n, p)
		ids = append(ids, first+n)
	}
	s.runs = append(s.runs, ids)
	return first, api.OK
}

// take keeps a page in a new place.
func (s *shelf) take(id int, p api.Page) {
	if p.Id != 0 || p.Tx != 0 {
		s.note("a new page that has an Id, or a Tx:", p.Id)
	}
	p.Id, p.Tx = id, 9
	s.last, s.pages[id], s.mine[id] = max(s.last, id), p, true
}

func (s *shelf) Set(p api.Page) api.Errno {
	if s.fails("Set") {
		return s.bad
	}
	if !s.mine[p.Id] || slices.Contains(s.gone, p.Id) {
		s.note("Set of a page that is not mine, or was Freed:", p.Id)
	}
	s.pages[p.Id] = p
	s.sets = append(s.sets, p.Id)
	return api.OK
}

func (s *shelf) Mine(id int) bool {
	if _, ok := s.pages[id]; !ok {
		s.note("Mine of no page:", id)
	}
	return s.mine[id]
}

func (s *shelf) Free(ids ...int) {
	if len(ids) == 0 {
		s.note("Free of none:", 0)
	}
	for _, id := range ids {
		if _, ok := s.pages[id]; !ok || slices.Contains(s.gone, id) {
			s.note("Free of no page, or once more:", id)
		}
		s.gone = append(s.gone, id)
	}
}

// begin forgets what was done.
func (s *shelf) begin() {
	s.gets, s.news, s.runs, s.sets, s.gone, s.wrong = nil, nil, nil, nil, nil, nil
	s.name, s.nth, s.all = "", 0, false
}

// old lets all pages be old ones.
func (s *shelf) old() *shelf {
	s.begin()
	clear(s.mine)
	return s
}

// copy tells another shelf alike.
func (s *shelf) copy() *shelf {
	c := *s
	c.pages, c.mine, c.spare = maps.Clone(s.pages), maps.Clone(s.mine), slices.Clone(s.spare)
	c.begin()
	return &c
}

// taken tells the pages that were taken, rising.
func (s *shelf) taken() []int {
	return slices.Sorted(slices.Values(append(slices.Concat(s.runs...), s.news...)))
}

// freed tells the pages that were given back, rising.
func (s *shelf) freed() []int { return slices.Sorted(slices.Values(s.gone)) }

// box is the plain truth of a bucket.
type box struct {
	seq    int
	values map[string]string
	boxes  map[string]*box
}

func newBox() *box { return &box{values: map[string]string{}, boxes: map[string]*box{}} }

// copy tells another box alike.
func (x *box) copy() *box {
	c := &box{x.seq, maps.Clone(x.values), map[string]*box{}}
	for name, in := range x.boxes {
		c.boxes[name] = in.copy()
	}
	return c
}

// at tells the box at a path.
func (x *box) at(path ...string) *box {
	for _, name := range path {
		x = x.boxes[name]
	}
	return x
}

// deep tells the paths of all boxes: its own ahead of those within.
func (x *box) deep() [][]string {
	l := [][]string{{}}
	for _, name := range slices.Sorted(maps.Keys(x.boxes)) {
		for _, path := range x.boxes[name].deep() {
			l = append(l, append([]string{name}, path...))
		}
	}
	return l
}

// long tells a value of n bytes.
func long(n int) string {
	b := make([]byte, n)
	for i := range b {
		b[i] = byte(i*7 + n)
	}
	return string(b)
}

// half tells the number that two bytes say.
func half(s string) int { return int(s[0]) + 256*int(s[1]) }

// look looks at a bucket as the chapter tells how it stands in pages: what it
// has, and the pages of all of it, as they are come to.
func (s *shelf) look(t *testing.T, b bucket.Bucket) (*box, []int) {
	t.Helper()
	x := newBox()
	x.seq = b.Seq
	if e := tree.Check(s, b.Root); e != api.OK {
		t.Fatalf("the tree of %d: Check: error %d", b.Root, e)
	}
	ids, _ := tree.Ids(s, b.Root)
	l, _ := tree.Items(s, b.Root, "", 1<<30)
	for _, i := range l {
		switch i.Kind {
		case api.Plain:
			x.values[i.Key] = i.Value
		case api.Far:
			value, more := s.far(t, i)
			x.values[i.Key], ids = value, append(ids, more...)
		default:
			if len(i.Value) != 10 {
				t.Fatalf("bucket %q: %x", i.Key, i.Value)
			}
			seq := 0
			for n := 9; n >= 2; n-- {
				seq = seq<<8 + int(i.Value[n])
			}
			in, more := s.look(t, bucket.Bucket{Root: half(i.Value), Seq: seq})
			x.boxes[i.Key], ids = in, append(ids, more...)
		}
	}
	return x, ids
}

// far looks at a value that stands in pages of its own.
func (s *shelf) far(t *testing.T, i api.Item) (string, []int) {
	t.Helper()
	if len(i.Value) != 4 || half(i.Value[2:]) <= api.MaxInner {
		t.Fatalf("%q: no ref of a long value: %x", i.Key, i.Value)
	}
	value, ids := "", []int{}
	for id := half(i.Value); len(value) < half(i.Value[2:]); id++ {
		p := s.pages[id]
		if p.Kind != api.Over || p.Id != id || p.Body == "" {
			t.Fatalf("%q: page %d is %v", i.Key, id, p)
		}
		value, ids = value+p.Body, append(ids, id)
	}
	return value, ids
}

// same tells whether boxes are alike.
func same(a, b *box) bool {
	return a.seq == b.seq && maps.Equal(a.values, b.values) && maps.EqualFunc(a.boxes, b.boxes, same)
}

// check holds an error against the one that is wanted.
func check(t *testing.T, what string, got, want api.Errno) {
	t.Helper()
	if got != want {
		t.Errorf("%s: error %d, not %d", what, got, want)
	}
}

// checkInts holds ids against those that are wanted.
func checkInts(t *testing.T, what string, got []int, want ...int) {
	t.Helper()
	if !slices.Equal(got, want) {
		t.Errorf("%s: %v, not %v", what, got, want)
	}
}

// checkNot holds that a change was refused, and that nothing was done.
func checkNot(t *testing.T, what string, s *shelf, b bucket.Bucket, got, want api.Errno) {
	t.Helper()
	check(t, what, got, want)
	if b != (bucket.Bucket{}) {
		t.Errorf("%s: %v beside an error", what, b)
	}
	checkNone(t, what, s)
}

// checkNone holds that nothing was written, nor given back, but what was taken
// ahead of an error.
func checkNone(t *testing.T, what string, s *shelf) {
	t.Helper()
	if len(s.sets)+len(s.wrong) > 0 || !slices.Equal(s.freed(), s.taken()) {
		t.Errorf("%s: taken %v, Set %v, Freed %v, wrong %v", what, s.taken(), s.sets, s.gone, s.wrong)
	}
}

// checkBox holds all that is told of a bucket against what it is to have.
func checkBox(t *testing.T, what string, s *shelf, b bucket.Bucket, want *box) {
	t.Helper()
	got, ids := s.look(t, b)
	if !same(got, want) {
		t.Fatalf("%s: it has other things", what)
	}
	slices.Sort(ids)
	if l, e := bucket.Ids(s, b); !slices.Equal(l, ids) || e != api.OK {
		t.Fatalf("%s: Ids: %v, error %d, not %v", what, l, e, ids)
	}
	for _, path := range want.deep() {
		in, e := bucket.Find(s, b, path...)
		if e != api.OK {
			t.Fatalf("%s: Find of %q: error %d", what, path, e)
		}
		checkFlat(t, what+" "+strings.Join(path, "/"), s, in, want.at(path...))
	}
	if len(s.wrong) > 0 {
		t.Fatalf("%s: %v", what, s.wrong)
	}
}

// checkFlat holds what is told of the things of one bucket alone.
func checkFlat(t *testing.T, what string, s *shelf, b bucket.Bucket, want *box) {
	t.Helper()
	if b.Seq != want.seq {
		t.Fatalf("%s: Seq %d, not %d", what, b.Seq, want.seq)
	}
	l, e := bucket.Pairs(s, b, "", 1<<40)
	if pairs := pairsOf(want); !slices.Equal(l, pairs) || e != api.OK {
		t.Fatalf("%s: Pairs: %d of them, error %d, not %d", what, len(l), e, len(pairs))
	}
	names, e := bucket.Names(s, b)
	if !slices.Equal(names, slices.Sorted(maps.Keys(want.boxes))) || e != api.OK {
		t.Fatalf("%s: Names: %q, error %d", what, names, e)
	}
	for key, value := range want.values {
		if got, there, e := bucket.Get(s, b, key); got != value || !there || e != api.OK {
			t.Fatalf("%s: Get of %q: %d bytes, %t, error %d", what, key, len(got), there, e)
		}
	}
}

// pairsOf tells the values of a box.
func pairsOf(x *box) []api.Pair {
	var l []api.Pair
	for _, key := range slices.Sorted(maps.Keys(x.values)) {
		l = append(l, api.Pair{Key: key, Value: x.values[key]})
	}
	return l
}

// put is bucket.Put of what may be, into a box, too.
func put(t *testing.T, s *shelf, b bucket.Bucket, x *box, key, value string) bucket.Bucket {
	t.Helper()
	to, e := bucket.Put(s, b, key, value)
	if e != api.OK || to.Seq != b.Seq {
		t.Fatalf("Put of %q: %v, error %d", key, to, e)
	}
	x.values[key] = value
	return to
}

// mk is bucket.Make of what may be, into a box, too.
func mk(t *testing.T, s *shelf, b bucket.Bucket, x *box, name string) bucket.Bucket {
	t.Helper()
	to, e := bucket.Make(s, b, name)
	if e != api.OK || to.Seq != b.Seq {
		t.Fatalf("Make of %q: %v, error %d", name, to, e)
	}
	x.boxes[name] = newBox()
	return to
}

// into sets the bucket at a path.
func into(t *testing.T, s *shelf, b bucket.Bucket, in bucket.Bucket, path ...string) bucket.Bucket {
	t.Helper()
	to, e := bucket.Set(s, b, in, path...)
	if e != api.OK {
		t.Fatalf("Set of %q: %v, error %d", path, to, e)
	}
	return to
}

// some tells a bucket of values of each length, and of buckets within: a, of
// which b within has many values, d, which is empty, and e/f/g.
func some(t *testing.T) (*shelf, bucket.Bucket, *box) {
	t.Helper()
	s, b, x := empty(), bucket.Bucket{}, newBox()
	for _, n := range []int{0, 1, 95, 96, 97, 232, 233, 464, 465, 2000} {
		b = put(t, s, b, x, "k"+strconv.Itoa(n), long(n))
	}
	for _, path := range [][]string{{"a"}, {"d"}, {"e"}, {"a", "b"}, {"e", "f"}, {"e", "f", "g"}} {
		outer, name := path[:len(path)-1], path[len(path)-1]
		in, _ := bucket.Find(s, b, outer...)
		b = into(t, s, b, mk(t, s, in, x.at(outer...), name), outer...)
	}
	in, _ := bucket.Find(s, b, "a", "b")
	for n := range 60 {
		in = put(t, s, in, x.at("a", "b"), "n"+strconv.Itoa(n*37%100), long(n*11%300))
	}
	in.Seq, x.at("a", "b").seq = 5, 5
	b = into(t, s, b, in, "a", "b")
	in, _ = bucket.Find(s, b, "e", "f", "g")
	in = put(t, s, put(t, s, in, x.at("e", "f", "g"), "/", "slash"), x.at("e", "f", "g"), "\x00", long(700))
	b = into(t, s, b, in, "e", "f", "g")
	checkBox(t, "some", s, b, x)
	return s.old(), b, x
}
