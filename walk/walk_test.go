package walk_test

import (
	"math"
	"strconv"
	"sync"
	"testing"

	"rootstock/api"
	"rootstock/leaf"
	"rootstock/tree"
	"rootstock/walk"
)

// The trees of these tests are sound: what is told of them is told of trees.
func TestP1301TheTreesAreSound(t *testing.T) {
	r := &draws{1}
	for n := range 100 {
		m, l := r.shape()
		got, _ := m.items(m.root)
		checkItems(t, "drawn", got, l)
		check(t, "drawn "+strconv.Itoa(n), tree.Check(m, m.root), api.OK)
	}
	for what, m := range trees(t) {
		check(t, what, tree.Check(m, m.root), api.OK)
	}
}

func TestP1301Example(t *testing.T) {
	m := maker{of()}
	root := put(t, m, 0, item("a", "1"))
	root = put(t, m, root, item("c", "3"))
	w := walk.On(m, root)
	told := w.Seek("b")
	checkAt(t, "Seek of b", w, told, []api.Item{item("c", "3")}, 0)
}

func TestP1301StandsNowhereAtFirst(t *testing.T) {
	for what, m := range trees(t) {
		w := walk.On(m, m.root)
		checkAt(t, what, w, false, nil, 0)
		checkAt(t, what+": Next", w, w.Next(), nil, 0)
		checkAt(t, what+": Back", w, w.Back(), nil, 0)
		checkInts(t, what+": pages that are read", m.gets)
	}
}

func TestP1301FirstAndLast(t *testing.T) {
	for what, m := range trees(t) {
		l, _ := m.items(m.root)
		w := walk.On(m, m.root)
		for range 2 { // from nowhere, and from the other end
			checkAt(t, what+": First", w, w.First(), l, 0)
			checkAt(t, what+": Last", w, w.Last(), l, len(l)-1)
		}
		checkAt(t, what+": once more", w, w.Last(), l, len(l)-1)
		checkNone(t, what, m.shelf)
	}
}

func TestP1301Seek(t *testing.T) {
	for what, m := range trees(t) {
		l, _ := m.items(m.root)
		w := walk.On(m, m.root)
		for _, key := range around(l) {
			at, _ := leaf.Find(l, key)
			told := w.Seek(key) // from where the one ahead left it
			checkAt(t, what+": Seek of "+strconv.Quote(key), w, told, l, at)
			told = walk.On(m, m.root).Seek(key)
			if told != (at < len(l)) {
				t.Errorf("%s: Seek of %q from nowhere: %t", what, key, told)
			}
		}
		checkNone(t, what, m.shelf)
	}
}

// From each item, and from the place between any two, it goes on both ways.
func TestP1301NextAndBack(t *testing.T) {
	for what, m := range trees(t) {
		l, _ := m.items(m.root)
		w := walk.On(m, m.root)
		for _, key := range around(l) {
			at, _ := leaf.Find(l, key)
			what := what + ": Seek of " + strconv.Quote(key)
			if !w.Seek(key) {
				checkAt(t, what+", Back", w, w.Back(), nil, 0) // of nowhere: nowhere
				checkAt(t, what+", Next", w, w.Next(), nil, 0)
				continue
			}
			checkAt(t, what+", Next", w, w.Next(), l, at+1)
			w.Seek(key)
			checkAt(t, what+", Back", w, w.Back(), l, at-1)
			w.Seek(key)
			if at+1 < len(l) {
				w.Next()
				checkAt(t, what+", Next, Back", w, w.Back(), l, at)
			}
		}
	}
}

func TestP1301BehindTheEnds(t *testing.T) {
	for what, m := range trees(t) {
		w := walk.On(m, m.root)
		for range 3 {
			w.Last()
			checkAt(t, what+": behind the last one", w, w.Next(), nil, 0)
			checkAt(t, what+": and back", w, w.Back(), nil, 0)
			w.First()
			checkAt(t, what+": ahead of the first one", w, w.Back(), nil, 0)
			checkAt(t, what+": and on", w, w.Next(), nil, 0)
		}
		l, _ := m.items(m.root)
		checkAt(t, what+": First", w, w.First(), l, 0) // nowhere is no error
	}
}

// stray makes moves of any kind with a cursor, where it stands at a place of a list.
func stray(t *testing.T, what string, r *draws, w *walk.Walk, l []api.Item, moves int) {
	t.Helper()
	keys, at := around(l), -1
	if w.First() {
		at = 0
	}
	nowhere := 0
	for n := range moves {
		told := false
		switch move := r.below(20); {
		case move == 0:
			told, at = w.First(), 0
		case move == 1:
			told, at = w.Last(), len(l)-1
		case move < 4:
			key := keys[r.below(len(keys))]
			told = w.Seek(key)
			at, _ = leaf.Find(l, key)
		case at < 0:
			told = []func() bool{w.Next, w.Back}[move%2]()
			nowhere++
		case move < 12:
			told, at = w.Next(), at+1
		default:
			told, at = w.Back(), at-1
		}
		if at >= len(l) {
			at = -1
		}
		checkAt(t, what+", move "+strconv.Itoa(n), w, told, l, at)
	}
	if nowhere == 0 && moves > 500 {
		t.Errorf("%s: it never stood nowhere", what)
	}
}

func TestP1301AnyOrder(t *testing.T) {
	r := &draws{4}
	for what, m := range trees(t) {
		l, _ := m.items(m.root)
		stray(t, what, r, walk.On(m, m.root), l, 2000)
		checkNone(t, what, m.shelf)
	}
	for n := range 300 {
		m, l := r.shape()
		stray(t, "drawn "+strconv.Itoa(n), r, walk.On(m, m.root), l, 200)
	}
}

// Several cursors on one tree have a stack each.
func TestP1301CursorsByThemselves(t *testing.T) {
	for what, m := range trees(t) {
		l, _ := m.items(m.root)
		a, b := walk.On(m, m.root), walk.On(m, m.root)
		b.First()
		for at := range l {
			what := what + ", " + strconv.Itoa(at)
			checkAt(t, what, a, a.Seek(l[at].Key), l, at)
			checkAt(t, what+", the other one", b, at == 0 || b.Next(), l, at)
			c := *a // a copy, too
			checkAt(t, what+", Next of a copy", &c, c.Next(), l, at+1)
			d := *a
			checkAt(t, what+", Back of a copy", &d, d.Back(), l, at-1)
			d.Last()
			checkAt(t, what+", as it stood", a, true, l, at)
		}
	}
}

func TestP1301AtOneTime(t *testing.T) {
	m := made{full(7), 2}
	l, _ := m.items(m.root)
	got := make([][]api.Item, 8)
	var all sync.WaitGroup
	for n := range got {
		all.Add(1)
		go func() {
			defer all.Done()
			w := walk.On(m.with(), m.root)
			got[n] = append(forth(w), back(w)...)
		}()
	}
	all.Wait()
	for _, both := range got {
		checkItems(t, "forth and back", both, append(append([]api.Item{}, l...), turned(l)...))
	}
}

// No more pages are read than stand on the way from where it stood.
func TestP1301ReadsTheWayAlone(t *testing.T) {
	for _, c := range []struct {
		what  string
		moves func(w *walk.Walk)
		want  []int
	}{
		{"First", func(w *walk.Walk) { w.First() }, []int{20, 9, 4}},
		{"Last", func(w *walk.Walk) { w.Last() }, []int{20, 15, 13}},
		{"Seek", func(w *walk.Walk) { w.Seek("m") }, []int{20, 15, 11}},
		{"Seek of a key ahead of all", func(w *walk.Walk) { w.Seek("") }, []int{20, 9, 4}},
		{"Seek of a key between leaves", func(w *walk.Walk) { w.Seek("o") }, []int{20, 15, 12}},
		{"Seek of a key that is in the leaf behind", func(w *walk.Walk) { w.Seek("dd") }, []int{20, 9, 4, 7}},
		{"Seek of a key that is in the twig behind", func(w *walk.Walk) { w.Seek("hh") }, []int{20, 9, 7, 15, 11}},
		{"Seek of a key behind all", func(w *walk.Walk) { w.Seek("z") }, []int{20, 15, 13}},
		{"Next in a leaf", func(w *walk.Walk) { w.First(); w.Next() }, []int{20, 9, 4}},
		{"Next to a leaf", func(w *walk.Walk) { w.Seek("d"); w.Next() }, []int{20, 9, 4, 7}},
		{"Next to a twig", func(w *walk.Walk) { w.Seek("h"); w.Next() }, []int{20, 9, 7, 15, 11}},
		{"Next of the last one", func(w *walk.Walk) { w.Last(); w.Next() }, []int{20, 15, 13}},
		{"Back in a leaf", func(w *walk.Walk) { w.Last(); w.Back(); w.Back() }, []int{20, 15, 13}},
		{"Back to a leaf", func(w *walk.Walk) { w.Seek("r"); w.Back() }, []int{20, 15, 13, 12}},
		{"Back to a twig", func(w *walk.Walk) { w.Seek("k"); w.Back() }, []int{20, 15, 11, 9, 7}},
		{"Back of the first one", func(w *walk.Walk) { w.First(); w.Back() }, []int{20, 9, 4}},
		{"Item and Err", func(w *walk.Walk) { w.First(); w.Item(); w.Item(); w.Err() }, []int{20, 9, 4}},
	} {
		s := three()
		c.moves(walk.On(s, 20))
		checkInts(t, c.what, s.gets, c.want...)
	}
	s := of(leafOf(2, "a"))
	w := walk.On(s, 0)
	w.First()
	w.Last()
	w.Seek("a")
	checkInts(t, "an empty tree", s.gets)
}

// What is told stays, whatever the cursor does then.
func TestP1301ItemsAreNew(t *testing.T) {
	m := made{three(), 20}
	l, _ := m.items(m.root)
	w := walk.On(m, m.root)
	w.First()
	i, _ := w.Item()
	was := i
	i.Key, i.Value, i.Kind = "other", "other", 9
	checkAt(t, "the item was written over by its asker", w, true, l, 0)
	w.Next()
	w.First()
	checkAt(t, "and back", w, true, []api.Item{was}, 0)
}

// The tree of an old root is told as it was, while others are made of it.
func TestP1301WhileTheTreeIsCopied(t *testing.T) {
	s, root := grown(t, 200, 7)
	m, to := maker{s}, root
	l, _ := s.items(root)
	w := walk.On(m, root)
	w.First()
	for at := range l {
		to = put(t, m, to, item(l[(at*7)%len(l)].Key+"x", "new"))
		to, _, _ = tree.Delete(m, to, l[(at*3)%len(l)].Key)
		checkAt(t, "item "+strconv.Itoa(at), w, at == 0 || w.Next(), l, at)
	}
	checkAt(t, "the end", w, w.Next(), nil, 0)
	now, _ := s.items(to)
	checkItems(t, "the new one", forth(walk.On(m, to)), now)
}

func TestP1301RootsThatAreNoPages(t *testing.T) {
	for _, root := range []int{math.MinInt, -1, 1, 99, 5000, math.MaxInt} {
		for name := range calls(walk.On(two(), root)) {
			w := walk.On(two(), root)
			check(t, "ahead of all", w.Err(), api.OK)
			told := calls(w)[name]()
			if want := name != "Next" && name != "Back"; told || (w.Err() == api.ErrRange) != want {
				t.Errorf("%s on %d: %t, error %d", name, root, told, w.Err())
			}
		}
	}
}

// without tells calls on cursors that have no pages.
func without() map[string]*walk.Walk {
	return map[string]*walk.Walk{"nil": nil, "a zero one": new(walk.Walk), "one on no Pages": walk.On(nil, 2), "one on no Pages, an empty tree": walk.On(nil, 0)}
}

func TestP1302NilWalk(t *testing.T) {
	for what, w := range without() {
		checkBad(t, what, w, api.ErrArg)
	}
}
