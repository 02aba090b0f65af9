package store_test

import (
	"math"
	"strconv"
	"strings"
	"sync"
	"testing"

	"rootstock/api"
	"rootstock/disk"
	"rootstock/meta"
	"rootstock/store"
)

// layMeta is meta.Lay of a meta that may be.
func layMeta(t *testing.T, m meta.Meta) string {
	t.Helper()
	b, e := meta.Lay(m)
	if e != api.OK {
		t.Fatalf("meta.Lay of %+v: error %d", m, e)
	}
	return b
}

// checkMeta holds what Meta tells against the meta or the error that are wanted.
func checkMeta(t *testing.T, what string, s *store.Store, want meta.Meta, bad api.Errno) {
	t.Helper()
	if got, e := s.Meta(); got != want || e != bad {
		t.Errorf("%s: Meta: %+v, %d, not %+v, %d", what, got, e, want, bad)
	}
}

// checkNone holds Meta to tell that there is none.
func checkNone(t *testing.T, what string, s *store.Store) {
	t.Helper()
	checkMeta(t, what, s, meta.Meta{}, api.ErrBroken)
}

// wrongMetas tells metas that may not be.
func wrongMetas() []meta.Meta {
	return []meta.Meta{
		{},
		{Tx: 1},
		{Pages: 2},
		{Tx: -1, Pages: 2},
		{Tx: maxTx + 1, Pages: 2},
		{Tx: math.MinInt, Pages: 2},
		{Tx: math.MaxInt, Pages: 2},
		{Tx: 1, Pages: 1},
		{Tx: 1, Pages: 4001},
		{Tx: 1, Root: 1, Pages: 9},
		{Tx: 1, Root: 9, Pages: 9},
		{Tx: 1, Free: 1, Pages: 9},
		{Tx: 1, Free: 9, Pages: 9},
		{Tx: 1, Root: -1, Pages: 9},
		{Tx: 2, Root: 3, Free: 3, Pages: 9},
	}
}

func TestP802MetaIsTheGreaterOne(t *testing.T) {
	one, two, three := meta.First(), meta.Meta{Tx: 2, Root: 2, Pages: 3}, meta.Meta{Tx: 3, Root: 3, Free: 4, Pages: 5}
	_, s := start(t)
	for _, m := range []meta.Meta{one, two, three} {
		check(t, "SetMeta", s.SetMeta(m), api.OK)
		checkMeta(t, "behind SetMeta", s, m, api.OK)
		checkMeta(t, "once more", s, m, api.OK)
	}
	// The greater one counts, not the one that was written last.
	check(t, "SetMeta of an older one", s.SetMeta(two), api.OK)
	checkMeta(t, "behind an older one", s, three, api.OK)
	check(t, "SetMeta upon the newest", s.SetMeta(one), api.OK)
	checkMeta(t, "the newest is written over", s, two, api.OK)
	checkInt(t, "Reads", s.Reads(), 0)
}

func TestP802MetaOfNone(t *testing.T) {
	d, s := start(t)
	checkNone(t, "no file", s)
	checkNothing(t, "Meta of no file", d)
	fill(t, d, 1)
	checkNone(t, "a sector of zero bytes", s)
	fill(t, d, 2)
	checkNone(t, "two sectors of zero bytes", s)
	check(t, "Put", s.Put(leaf(2, 1, "a"), leaf(3, 1, "b")), api.OK)
	checkNone(t, "pages alone", s)
	write(t, d, 2, layMeta(t, meta.Meta{Tx: 2, Pages: 2}))
	write(t, d, 3, layMeta(t, meta.Meta{Tx: 3, Pages: 2}))
	checkNone(t, "metas behind the first two sectors", s)
	check(t, "SetMeta", s.SetMeta(meta.First()), api.OK)
	checkMeta(t, "the first one", s, meta.First(), api.OK)
	d.Cut("f", 0)
	checkNone(t, "a file of no sectors", s)
	d.Remove("f")
	checkNone(t, "removed", s)
}

// A sector that is not there, or that can't be read, is an empty one: the other one counts.
func TestP802MetaOfOneAlone(t *testing.T) {
	even, odd := meta.Meta{Tx: 8, Root: 2, Pages: 3}, meta.Meta{Tx: 9, Root: 3, Free: 2, Pages: 4}
	a, b := layMeta(t, even), layMeta(t, odd)
	spoil := func(s string, at int) string { return s[:at] + string([]byte{s[at] ^ 1}) + s[at+1:] }
	d, s := start(t)
	write(t, d, 0, a)
	checkMeta(t, "sector 0 alone", s, even, api.OK)
	for what, x := range map[string]string{
		"zero bytes":       zeros(),
		"no bytes but 255": strings.Repeat("\xff", 256),
		"a leaf":           sector(t, leaf(1, 10, b[16:48])),
	} {
		write(t, d, 1, x)
		checkMeta(t, what+" in 1", s, even, api.OK)
		write(t, d, 0, x)
		checkNone(t, what+" in both", s)
		write(t, d, 1, b)
		checkMeta(t, what+" in 0", s, odd, api.OK)
		write(t, d, 0, a)
		checkMeta(t, "both behind "+what, s, odd, api.OK)
	}
	for _, at := range []int{0, 2, 4, 16, 100, 248, 252, 255} {
		write(t, d, 1, spoil(b, at))
		checkMeta(t, "the newest one spoilt at "+strconv.Itoa(at), s, even, api.OK)
	}
	write(t, d, 0, spoil(a, 20))
	checkNone(t, "both spoilt", s)
	write(t, d, 0, b)
	write(t, d, 1, a)
	checkNone(t, "each in the other one's slot", s)
}

func TestP802MetaWithoutPower(t *testing.T) {
	d, s := start(t)
	check(t, "SetMeta", s.SetMeta(meta.First()), api.OK)
	check(t, "Sync", s.Sync(), api.OK)
	d.Crash()
	checkMeta(t, "no power", s, meta.Meta{}, api.ErrOff)
	d.Restore()
	checkMeta(t, "power", s, meta.First(), api.OK)
	d.Remove("f")
	d.Crash()
	checkMeta(t, "no power, no file", s, meta.Meta{}, api.ErrOff)
}

func TestP802SetMetaFillsUp(t *testing.T) {
	z, x := zeros(), strings.Repeat("x", 256)
	for _, m := range []meta.Meta{meta.First(), {Tx: 2, Root: 2, Pages: 3}, {Tx: maxTx, Root: 3998, Free: 3999, Pages: 4000}, {Tx: maxTx - 1, Pages: 2}} {
		b := layMeta(t, m)
		for n, want := range [][]string{{z, z}, {x, z}, {x, x}, {x, x, x}, {x, x, x, x}} {
			d, s := start(t)
			for at := range n {
				write(t, d, at, x)
			}
			what := "tx " + strconv.Itoa(m.Tx) + ", " + strconv.Itoa(n) + " sectors"
			check(t, what, s.SetMeta(m), api.OK)
			want[m.Tx%2] = b
			checkFile(t, what, d, want...)
			checkInt(t, what+": Dirty", d.Dirty(), max(n, 2)+1)
			checkInt(t, what+": Size", s.Size(), max(n, 2))
			checkMeta(t, what, s, m, api.OK)
		}
	}
}

// A new file is filled up first: its meta is the last of three writes.
func TestP802SetMetaWritesInOrder(t *testing.T) {
	z := zeros()
	one, two := meta.First(), meta.Meta{Tx: 2, Pages: 2}
	for n, want := range [][]string{{z}, {z, z}, {z, layMeta(t, one)}} {
		d, s := start(t)
		d.Arm(n, 256, 256, 256)
		check(t, "SetMeta where the power goes", s.SetMeta(one), api.ErrOff)
		d.Restore()
		checkFile(t, strconv.Itoa(n)+" writes are done", d, want...)
	}
	d, s := start(t)
	d.Arm(3)
	check(t, "SetMeta of three writes", s.SetMeta(two), api.OK)
	d.Arm(-1)
	d.Crash(0, 0, 256)
	d.Restore()
	checkFile(t, "the last write alone", d, layMeta(t, two))
}

func TestP802SetMetaOfNoMeta(t *testing.T) {
	d, s := start(t)
	for _, m := range wrongMetas() {
		check(t, "SetMeta of a wrong one", s.SetMeta(m), api.ErrArg)
	}
	checkNothing(t, "SetMeta of a wrong one", d)
	check(t, "SetMeta", s.SetMeta(meta.First()), api.OK)
	before := file(d, "f")
	for _, m := range wrongMetas() {
		check(t, "SetMeta of a wrong one", s.SetMeta(m), api.ErrArg)
	}
	checkFile(t, "SetMeta of a wrong one", d, before...)
	d.Crash()
	for _, m := range wrongMetas() {
		check(t, "SetMeta of a wrong one without power", s.SetMeta(m), api.ErrArg)
	}
	check(t, "SetMeta without power", s.SetMeta(meta.First()), api.ErrOff)
	d.Restore()
	checkNothing(t, "SetMeta without power", d)
}

func TestP802SetMetaWithoutRoom(t *testing.T) {
	z := zeros()
	d := disk.New(1)
	s := open(t, d, "f")
	check(t, "room for 1", s.SetMeta(meta.Meta{Tx: 2, Pages: 2}), api.ErrFull)
	checkFile(t, "room for 1", d, z)
	d.Room(2)
	check(t, "room for 2", s.SetMeta(meta.First()), api.OK)
	checkFile(t, "room for 2", d, z, layMeta(t, meta.First()))
	d.Room(1)
	check(t, "no more room is needed", s.SetMeta(meta.Meta{Tx: 2, Pages: 2}), api.OK)
}

// Put, SetMeta and Meta make nothing safe, Sync makes all of it safe.
func TestP802Sync(t *testing.T) {
	p := leaf(3, 1, "a")
	d, s := start(t)
	check(t, "Put", s.Put(p), api.OK)
	check(t, "SetMeta", s.SetMeta(meta.First()), api.OK)
	checkMeta(t, "ahead of Sync", s, meta.First(), api.OK)
	c := d.Twin()
	checkInt(t, "lost without Sync", c.Crash(), 5)
	c.Restore()
	checkNothing(t, "without Sync", c)

	check(t, "Sync", s.Sync(), api.OK)
	checkInt(t, "Dirty behind Sync", d.Dirty(), 0)
	check(t, "Put behind Sync", s.Put(leaf(3, 2, "b"), leaf(4, 2, "c")), api.OK)
	check(t, "SetMeta behind Sync", s.SetMeta(meta.Meta{Tx: 2, Pages: 5}), api.OK)
	checkInt(t, "lost behind Sync", d.Crash(), 3)
	d.Restore()
	checkFile(t, "behind Sync", d, zeros(), layMeta(t, meta.First()), zeros(), sector(t, p))
	checkMeta(t, "behind Sync", s, meta.First(), api.OK)
	checkGet(t, "behind Sync", s, 3, p, api.OK)
}

func TestP802SyncOfNoFile(t *testing.T) {
	d, s := start(t)
	d.Arm(0)
	check(t, "no file", s.Sync(), api.OK)
	if !d.On() {
		t.Error("Sync of no file was a change")
	}
	d.Arm(-1)
	checkNothing(t, "Sync of no file", d)
	d.Crash()
	check(t, "no file, no power", s.Sync(), api.ErrOff)
	d.Restore()
	check(t, "Put", s.Put(leaf(2, 1, "a")), api.OK)
	d.Arm(0, 256, 256, 256)
	check(t, "the power goes", s.Sync(), api.ErrOff)
	check(t, "no power", s.Sync(), api.ErrOff)
}

func TestP802SyncOfItsFileAlone(t *testing.T) {
	d := disk.New(0)
	f, g := open(t, d, "f"), open(t, d, "g")
	check(t, "Put into f", f.Put(leaf(2, 1, "a")), api.OK)
	check(t, "Put into g", g.Put(leaf(3, 1, "b")), api.OK)
	check(t, "Sync of g", g.Sync(), api.OK)
	checkInt(t, "Dirty", d.Dirty(), 3)
	d.Crash()
	d.Restore()
	checkInt(t, "Size of f", f.Size(), 0)
	checkInt(t, "Size of g", g.Size(), 4)
}

func TestP802Reads(t *testing.T) {
	d, s := start(t)
	again := open(t, d, "f")
	check(t, "Put", s.Put(leaf(2, 1, "a"), leaf(4, 1, "b")), api.OK)
	check(t, "SetMeta", s.SetMeta(meta.First()), api.OK)
	checkMeta(t, "Meta", s, meta.First(), api.OK)
	checkInt(t, "ahead of all", s.Reads(), 0)
	for i, id := range []int{2, 4, 2, 2} {
		s.Get(id)
		checkInt(t, "behind a Get", s.Reads(), i+1)
	}
	for _, id := range []int{-1, 0, 1, 3, 5} {
		if _, e := s.Get(id); e == api.OK {
			t.Errorf("Get of %d tells a page", id)
		}
	}
	checkInt(t, "behind Gets that told none", s.Reads(), 4)
	d.Crash()
	s.Get(2)
	checkInt(t, "without power", s.Reads(), 4)
	checkInt(t, "of another one of the file", again.Reads(), 0)
}

// Several read at one time: each read is counted.
func TestP802ReadsOfSeveral(t *testing.T) {
	const several, each = 16, 500
	_, s := start(t)
	p, q := leaf(2, 1, "a"), leaf(4, 1, "b")
	check(t, "Put", s.Put(p, q), api.OK)
	check(t, "SetMeta", s.SetMeta(meta.First()), api.OK)
	var wait sync.WaitGroup
	for range several {
		wait.Go(func() {
			for range each {
				checkGet(t, "several", s, 2, p, api.OK)
				checkGet(t, "several", s, 4, q, api.OK)
				checkBad(t, "several", s, 3, api.ErrForm)
				checkMeta(t, "several", s, meta.First(), api.OK)
			}
		})
	}
	wait.Wait()
	checkInt(t, "Reads", s.Reads(), 2*several*each)
}
