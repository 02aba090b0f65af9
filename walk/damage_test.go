package walk_test

import (
	"slices"
	"strconv"
	"strings"
	"testing"

	"rootstock/api"
	"rootstock/disk"
	"rootstock/leaf"
	"rootstock/store"
	"rootstock/twig"
	"rootstock/walk"
)

// damages tells a page as it may not be in a tree.
func damages(p api.Page) map[string]api.Page {
	other := api.Leaf
	if p.Kind == api.Leaf {
		other = api.Twig
	}
	l := map[string]api.Page{
		"a leaf of none":     raw(p.Id, api.Leaf, "\x00"),
		"a twig of none":     raw(p.Id, api.Twig, "\x00"),
		"a twig of one":      twigOf(p.Id, kid("", p.Id+1)),
		"of the other kind":  raw(p.Id, other, p.Body),
		"keys that fall":     raw(p.Id, api.Leaf, "\x02\x00\x01\x00b\x00\x00\x00\x01\x00a\x00\x00"),
		"a key twice":        raw(p.Id, api.Leaf, "\x02\x00\x01\x00b\x00\x00\x00\x01\x00b\x00\x00"),
		"a child that falls": raw(p.Id, api.Twig, "\x02\x05\x00\x01\x00b\x06\x00\x01\x00a"),
		"itself below it":    twigOf(p.Id, kid("", p.Id), kid("\xff", p.Id)),
		"nothing in it":      raw(p.Id, p.Kind, ""),
		"a byte less":        raw(p.Id, p.Kind, p.Body[:len(p.Body)-1]),
		"a byte more":        raw(p.Id, p.Kind, p.Body+"\x00"),
	}
	for _, kind := range []int{-1, 0, api.Meta, api.Free, api.Over, 6, 260} {
		l["of kind "+strconv.Itoa(kind)] = raw(p.Id, kind, p.Body)
	}
	return l
}

// reach tells the places of the items that are below a page: all from, and up to.
func (s *shelf) reach(root, id int) (from, to int) {
	l, _ := s.items(root)
	below, _ := s.items(id)
	from, _ = leaf.Find(l, below[0].Key)
	return from, from + len(below)
}

// needs tells whether the way down to where a key stands leads by a page.
func (s *shelf) needs(root, id int, key string) bool {
	for root != id {
		p := s.pages[root]
		if p.Kind == api.Leaf {
			return false
		}
		kids, _ := twig.Read(p.Body)
		root = kids[twig.Find(kids, key)].Page
	}
	return true
}

// checkDamaged holds what is told of a tree one of whose pages is damaged.
func checkDamaged(t *testing.T, what string, bad *shelf, m made, id int, want api.Errno) {
	t.Helper()
	l, _ := m.items(m.root)
	from, to := m.reach(m.root, id)
	w := walk.On(bad, m.root)
	checkItems(t, what+": forth", forth(w), l[:from])
	checkBad(t, what+": forth", w, want)
	w = walk.On(bad, m.root)
	checkItems(t, what+": back", back(w), turned(l[to:]))
	checkBad(t, what+": back", w, want)
	for _, key := range around(l) {
		at, _ := leaf.Find(l, key)
		w := walk.On(bad, m.root)
		told := w.Seek(key)
		what := what + ": Seek of " + strconv.Quote(key)
		if m.needs(m.root, id, key) || at == from && from < to {
			checkBad(t, what, w, want)
			continue
		}
		checkAt(t, what, w, told, l, at)
	}
	checkNone(t, what, bad)
}

// Wherever a page is damaged: up to it all items come, from both ends; it is
// told where it is come to, and from then on.
func TestP1301DamagedPages(t *testing.T) {
	for what, m := range trees(t) {
		_, ids := m.items(m.root)
		if len(ids) > 20 {
			continue
		}
		for _, id := range ids {
			for how, p := range damages(m.pages[id]) {
				checkDamaged(t, what+": page "+strconv.Itoa(id)+" is "+how, m.with(p), m, id, api.ErrBroken)
			}
			gone := m.with()
			delete(gone.pages, id)
			checkDamaged(t, what+": no page "+strconv.Itoa(id), gone, m, id, api.ErrRange)
		}
	}
}

// An error stays, also when the page can be read again.
func TestP1301TheErrorStays(t *testing.T) {
	for nth := 1; nth < 9; nth++ {
		s := three()
		s.nth, s.bad = nth, api.Errno(100+nth)
		w := walk.On(s, 20)
		forth(w)
		read := len(s.gets)
		checkBad(t, "error "+strconv.Itoa(nth), w, api.Errno(100+nth))
		checkInts(t, "pages that are read behind it", s.gets[read:])
		l, _ := s.items(20)
		checkItems(t, "another cursor", forth(walk.On(s, 20)), l)
	}
}

// Each page that a call asks for is told an error, one after the other: the
// call answers it, and it is not the one of another page.
func TestP1301ErrorsOfPages(t *testing.T) {
	told := 0
	for what, m := range trees(t) {
		l, _ := m.items(m.root)
		for at := 0; at < len(l); at += 1 + len(l)/50 {
			for name := range calls(walk.On(m, m.root)) {
				good := m.with()
				w := walk.On(good, m.root)
				w.Seek(l[at].Key)
				stood := len(good.gets)
				calls(w)[name]()
				for nth := stood + 1; nth <= len(good.gets); nth++ {
					for _, panics := range []bool{false, true} {
						bad, want := m.with(), api.Errno(100+nth)
						bad.nth, bad.bad, bad.panics = nth, want, panics
						if panics {
							want = api.ErrBroken
						}
						w := walk.On(bad, m.root)
						w.Seek(l[at].Key)
						checkAt(t, what+": Seek", w, true, l, at)
						if calls(w)[name]() {
							t.Errorf("%s: %s is true", what, name)
						}
						checkBad(t, what+": "+name, w, want)
						told++
					}
				}
			}
		}
	}
	if told < 500 {
		t.Errorf("errors came but %d times", told)
	}
}

// Pages that are nil, in an interface that is not, panic.
func TestP1301PagesThatPanic(t *testing.T) {
	for name := range calls(walk.On(two(), 9)) {
		w := walk.On((*shelf)(nil), 9)
		if calls(w)[name]() || (w.Err() == api.ErrBroken) != (name != "Next" && name != "Back") {
			t.Errorf("%s: error %d", name, w.Err())
		}
	}
}

// Leaves whose keys do not rise from one to the other are damaged, also where
// each by itself is none; no item comes twice, nor in a wrong place.
func TestP1301KeysThatDoNotRise(t *testing.T) {
	a, b, c := leafOf(2, "b", "d"), leafOf(3, "f", "h"), leafOf(4, "k", "m")
	for _, s := range []struct {
		what  string
		pages *shelf
		forth string
		back  string
	}{
		{"a leaf twice", of(a, twigOf(9, kid("", 2), kid("e", 2))), "bd", "db"},
		{"the leaves the other way round", of(a, b, twigOf(9, kid("", 3), kid("g", 2))), "fh", "db"},
		{"one the other way round", of(a, b, c, twigOf(9, kid("", 3), kid("g", 2), kid("k", 4))), "fh", "mkdb"},
		{"a key twice", of(a, leafOf(3, "d", "f"), twigOf(9, kid("", 2), kid("d", 3))), "bd", "fd"},
		{"one in between", of(a, leafOf(3, "c", "f"), twigOf(9, kid("", 2), kid("c", 3))), "bd", "fc"},
		{"a twig twice", of(a, b, twigOf(7, kid("", 2), kid("e", 3)), twigOf(9, kid("", 7), kid("i", 7))), "bdfh", "hfdb"},
	} {
		w := walk.On(s.pages, 9)
		if got := strings.Join(keysOf(forth(w)), ""); got != s.forth {
			t.Errorf("%s: forth: %q", s.what, got)
		}
		checkBad(t, s.what+": forth", w, api.ErrBroken)
		w = walk.On(s.pages, 9)
		if got := strings.Join(keysOf(back(w)), ""); got != s.back {
			t.Errorf("%s: back: %q", s.what, got)
		}
		checkBad(t, s.what+": back", w, api.ErrBroken)
	}
	w := walk.On(of(a, b, twigOf(9, kid("", 2), kid("x", 3))), 9)
	w.Seek("p") // it is in the leaf behind, if anywhere
	checkBad(t, "Seek of a key that is above all", w, api.ErrBroken)
}

// Each call comes to an end where pages stand in a ring.
func TestP1301Rings(t *testing.T) {
	a := leafOf(2, "b")
	for what, s := range map[string]*shelf{
		"itself":    of(twigOf(9, kid("", 9), kid("x", 9))),
		"two":       of(twigOf(9, kid("", 8), kid("x", 8)), twigOf(8, kid("", 9), kid("y", 9))),
		"a way out": of(a, twigOf(9, kid("", 8), kid("x", 2)), twigOf(8, kid("", 9), kid("y", 2))),
	} {
		for _, name := range []string{"First", "Seek", "Seek of nothing"} {
			w := walk.On(s, 9)
			if calls(w)[name]() {
				t.Errorf("%s: %s is true", what, name)
			}
			checkBad(t, what+": "+name, w, api.ErrBroken)
		}
	}
}

// chain tells twigs, one below the other, down to a leaf; the last child of
// all of them is another leaf.
func chain(levels int) *shelf {
	s := of(leafOf(9+levels, "b", "d"), leafOf(50, "p"))
	for n := range levels - 1 {
		s.pages[10+n] = twigOf(10+n, kid("", 11+n), kid("p", 50))
	}
	return s
}

// A tree is no deeper than 12: what is below that is not read.
func TestP1301TooDeep(t *testing.T) {
	for levels := 1; levels < 20; levels++ {
		s := chain(levels)
		w := walk.On(s, 10)
		told := w.First()
		if levels <= 12 {
			checkAt(t, strconv.Itoa(levels)+" levels", w, told, []api.Item{{Key: "b", Value: "is b", Kind: (9 + levels) % 3}}, 0)
			continue
		}
		checkBad(t, strconv.Itoa(levels)+" levels", w, api.ErrBroken)
		if len(s.gets) > 12 {
			t.Errorf("%d levels: %d pages are read", levels, len(s.gets))
		}
	}
}

// onFile is Pages of a file that is read.
type onFile struct{ *store.Store }

func (onFile) New(api.Page) (int, api.Errno) { return 0, api.ErrRead }
func (onFile) Set(api.Page) api.Errno        { return api.ErrRead }
func (onFile) Mine(int) bool                 { return false }
func (onFile) Free(...int)                   {}

// keep writes a tree into a file.
func keep(t *testing.T, m made) (*disk.Disk, *store.Store) {
	t.Helper()
	d := disk.New(0)
	s, e := store.Open(d, "f")
	check(t, "Open", e, api.OK)
	for _, p := range m.pages {
		check(t, "Put", s.Put(p), api.OK)
	}
	check(t, "Sync", s.Sync(), api.OK)
	return d, s
}

// The error is the one that the pages tell: of a file, that of its store.
func TestP1301OnAFile(t *testing.T) {
	for what, m := range trees(t) {
		l, ids := m.items(m.root)
		d, s := keep(t, m)
		w := walk.On(onFile{s}, m.root)
		checkItems(t, what+": forth", forth(w), l)
		checkItems(t, what+": back", back(w), turned(l))
		check(t, what, w.Err(), api.OK)
		if len(ids) == 0 {
			continue
		}
		last := ids[len(ids)-1]
		b, _ := d.Read("f", last)
		spoilt := []byte(b)
		spoilt[20] ^= 1
		check(t, "Write", d.Write("f", last, string(spoilt)), api.OK)
		from, _ := m.reach(m.root, last)
		checkItems(t, what+": up to what is spoilt", forth(w), l[:from])
		checkBad(t, what+": a byte is spoilt", w, api.ErrSum)
		w = walk.On(onFile{s}, m.root)
		stood := len(ids) > 1 && w.First()
		d.Crash()
		if stood {
			i, _ := w.Item()
			checkItems(t, what+": without power it stands where it stood", []api.Item{i}, l[:1])
		}
		w.Last()
		checkBad(t, what+": without power", w, api.ErrOff)
		if !slices.Contains(ids, m.root) {
			t.Errorf("%s: the root is none of its pages", what)
		}
	}
}
