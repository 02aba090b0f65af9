package bucket_test

import (
	"slices"
	"strconv"
	"testing"

	"rootstock/api"
	"rootstock/bucket"
	"rootstock/disk"
	"rootstock/free"
	"rootstock/store"
)

// draws are numbers that are as good as drawn, but the same each time.
type draws struct{ x uint32 }

// below tells one from 0 on below n.
func (r *draws) below(n int) int {
	r.x = r.x*1664525 + 1013904223
	return int(r.x>>8) % n
}

// path tells the path of one of the boxes, or of one beside them.
func (r *draws) path(x *box) []string {
	l := x.deep()
	path := l[r.below(len(l))]
	if r.below(8) == 0 && len(path) < api.MaxDepth {
		path = append(slices.Clone(path), "k"+strconv.Itoa(r.below(9)))
	}
	return path
}

// act does one drawn thing in the bucket of a path, and to its box; the bucket
// then, and whether anything was done.
func (r *draws) act(p bucket.Pages, in bucket.Bucket, x *box, deep bool) (bucket.Bucket, api.Errno, api.Errno) {
	key := "k" + strconv.Itoa(r.below(30))
	_, value := x.values[key]
	_, isBox := x.boxes[key]
	switch what := r.below(10); {
	case what < 4:
		v := long([]int{r.below(97), r.below(97), r.below(500), r.below(2001)}[what])
		to, e := bucket.Put(p, in, key, v)
		return x.done(to, e, kindOf(isBox, api.ErrKind), func() { x.values[key] = v })
	case what < 7:
		to, e := bucket.Delete(p, in, key)
		return x.done(to, e, kindOf(isBox, api.ErrKind, !value, api.ErrNone), func() { delete(x.values, key) })
	case what < 8 && deep:
		to, e := bucket.Make(p, in, key)
		return x.done(to, e, kindOf(value, api.ErrKind, isBox, api.ErrDup), func() { x.boxes[key] = newBox() })
	case what < 9:
		to, e := bucket.Drop(p, in, key)
		return x.done(to, e, kindOf(value, api.ErrKind, !isBox, api.ErrNone), func() { delete(x.boxes, key) })
	}
	in.Seq++
	x.seq++
	return in, api.OK, api.OK
}

// kindOf tells the error that stands behind the first condition that holds.
func kindOf(l ...any) api.Errno {
	for n := 0; n < len(l); n += 2 {
		if l[n] == true {
			return l[n+1].(api.Errno)
		}
	}
	return api.OK
}

// done does to a box what was done.
func (x *box) done(to bucket.Bucket, e, want api.Errno, do func()) (bucket.Bucket, api.Errno, api.Errno) {
	if want == api.OK && e == api.OK {
		do()
	}
	return to, e, want
}

// Whatever is done, in whatever order, through transactions one behind the
// other: a bucket has what plain lists have, that of the transaction ahead
// stays as it was, and no page is lost.
func TestP1404AnyOrder(t *testing.T) {
	boxes, errors := 0, 0
	for seed := range 12 {
		r, dead := &draws{uint32(seed)}, map[int]bool{}
		s, b, x := empty(), bucket.Bucket{}, newBox()
		safe, old := b, x.copy()
		for n := range 300 {
			what := "seed " + strconv.Itoa(seed) + ", step " + strconv.Itoa(n)
			path := r.path(x)
			in, e := bucket.Find(s, b, path...)
			y, there := reach(x, path)
			s.begin()
			if e != api.OK || !there {
				if there || e != api.ErrNone && e != api.ErrKind {
					t.Fatalf("%s: Find of %q: error %d", what, path, e)
				}
				continue
			}
			_, ids := s.look(t, b)
			to, e, want := r.act(s, in, y, len(path) < api.MaxDepth)
			if e != want || e != api.OK && (to != bucket.Bucket{} || len(s.taken())+len(s.gone)+len(s.sets) > 0) {
				t.Fatalf("%s: %v, error %d, not %d", what, to, e, want)
			}
			if e != api.OK {
				errors++
				continue
			}
			b = into(t, s, b, to, path...)
			checkBox(t, what, s, b, x)
			checkSpent(t, what, s, ids, b)
			s.settle(dead)
			checkBox(t, what+": the old one", s, safe, old)
			if r.below(15) == 0 {
				s.commit(dead)
				safe, old = b, x.copy()
			}
			boxes = max(boxes, len(x.deep()))
			if _, ids = s.look(t, b); len(s.pages) != len(ids)+len(dead) {
				t.Fatalf("%s: %d pages, of which the bucket has %d, and %d are gone", what, len(s.pages), len(ids), len(dead))
			}
		}
	}
	if boxes < 8 || errors < 300 {
		t.Errorf("but %d boxes, and %d errors", boxes, errors)
	}
}

// reach tells the box at a path, if it is there.
func reach(x *box, path []string) (*box, bool) {
	for _, name := range path {
		in, there := x.boxes[name]
		if !there {
			return nil, false
		}
		x = in
	}
	return x, true
}

// checkSpent holds that each page that was the bucket's, or was taken, is the
// bucket's still or was given back.
func checkSpent(t *testing.T, what string, s *shelf, old []int, b bucket.Bucket) {
	t.Helper()
	_, ids := s.look(t, b)
	all := slices.Concat(old, s.taken())
	slices.Sort(all)
	kept := slices.Concat(ids, s.gone)
	slices.Sort(kept)
	if all = slices.Compact(all); !slices.Equal(all, kept) {
		t.Fatalf("%s: pages %v, of which %v are left or gone", what, all, kept)
	}
}

// settle lets pages of this transaction that are gone be taken again, and
// tells with dead which of the others are gone.
func (s *shelf) settle(dead map[int]bool) {
	for _, id := range s.gone {
		switch {
		case s.mine[id]:
			delete(s.pages, id)
			delete(s.mine, id)
			s.spare = append(s.spare, id)
		case dead[id]:
			s.note("Freed once more:", id)
		default:
			dead[id] = true
		}
	}
}

// commit ends the transaction: nothing is mine any more, and what is gone may be taken again.
func (s *shelf) commit(dead map[int]bool) {
	for id := range dead {
		delete(s.pages, id)
		s.spare = append(s.spare, id)
	}
	slices.Sort(s.spare)
	clear(dead)
	clear(s.mine)
}

// file is Pages of a file: pages are written at once, and taken of a free list.
type file struct {
	*store.Store
	list *free.List
	tx   int
	mine map[int]bool
	gone []int
}

func (f *file) New(p api.Page) (int, api.Errno) { return f.Run(p) }

func (f *file) Run(l ...api.Page) (int, api.Errno) {
	first, e := f.list.Take(len(l))
	if e != api.OK {
		return 0, e
	}
	for n, p := range l {
		p.Id, p.Tx = first+n, f.tx
		if e := f.Put(p); e != api.OK {
			return 0, e
		}
		f.mine[p.Id] = true
	}
	return first, api.OK
}

func (f *file) Set(p api.Page) api.Errno {
	p.Tx = f.tx
	return f.Put(p)
}

func (f *file) Mine(id int) bool { return f.mine[id] }

func (f *file) Free(ids ...int) { f.gone = append(f.gone, ids...) }

// In a file of package store buckets are read again as they were written.
func TestP1404InAFile(t *testing.T) {
	d := disk.New(0)
	st, e := store.Open(d, "f")
	if e != api.OK {
		t.Fatalf("Open: error %d", e)
	}
	f := &file{Store: st, list: free.New(2), tx: 2, mine: map[int]bool{}}
	r, b, x := &draws{7}, bucket.Bucket{}, newBox()
	for n := range 600 {
		path := r.path(x)
		y, there := reach(x, path)
		if !there {
			continue
		}
		in, e := bucket.Find(f, b, path...)
		check(t, "Find", e, api.OK)
		to, e, want := r.act(f, in, y, len(path) < api.MaxDepth)
		check(t, "step "+strconv.Itoa(n), e, want)
		if e != api.OK {
			continue
		}
		b, e = bucket.Set(f, b, to, path...)
		check(t, "Set", e, api.OK)
		f.list.Give(f.tx, f.gone...)
		f.gone = nil
		if n%5 == 0 {
			f.list.Release(f.tx)
			f.tx++
			clear(f.mine)
		}
	}
	again, _ := store.Open(d, "f")
	g := &file{Store: again}
	for _, path := range x.deep() {
		in, e := bucket.Find(g, b, path...)
		check(t, "Find", e, api.OK)
		l, e := bucket.Pairs(g, in, "", 999)
		if !slices.Equal(l, pairsOf(x.at(path...))) || e != api.OK || in.Seq != x.at(path...).seq {
			t.Errorf("%q: %d values, error %d, Seq %d", path, len(l), e, in.Seq)
		}
	}
	ids, e := bucket.Ids(g, b)
	check(t, "Ids", e, api.OK)
	if len(ids)+len(f.list.All())+2 != f.list.Pages() {
		t.Errorf("%d pages, %d free, of %d", len(ids), len(f.list.All()), f.list.Pages())
	}
	if len(x.deep()) < 4 {
		t.Errorf("but %d buckets", len(x.deep()))
	}
}
