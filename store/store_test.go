package store_test

import (
	"math"
	"slices"
	"strconv"
	"strings"
	"testing"

	"rootstock/api"
	"rootstock/disk"
	"rootstock/meta"
	"rootstock/page"
	"rootstock/store"
)

const maxTx = 1 << 40

// zeros are the bytes of a sector that fills a file up.
func zeros() string { return strings.Repeat("\x00", 256) }

// leaf tells a page of items.
func leaf(id, tx int, body string) api.Page {
	return api.Page{Kind: api.Leaf, Id: id, Tx: tx, Body: body}
}

// pages tells pages that may be put: each kind, and the edges of each part.
func pages() []api.Page {
	var l []api.Page
	for i, kind := range []int{api.Free, api.Leaf, api.Twig, api.Over} {
		l = append(l, api.Page{Kind: kind, Id: 4 + i, Tx: 9, Body: "ab"})
	}
	for _, id := range []int{2, 3, 255, 256, 3998, 3999} {
		l = append(l, leaf(id, 7, "id "+strconv.Itoa(id)))
	}
	for i, tx := range []int{0, 1, 1<<32 - 1, 1 << 32, maxTx} {
		l = append(l, leaf(20+i, tx, "tx"))
	}
	for i, n := range []int{0, 1, 231, 232} {
		l = append(l, leaf(30+i, 3, strings.Repeat("b", n)))
	}
	return append(l, api.Page{Kind: api.Over, Id: 40, Tx: maxTx, Body: strings.Repeat("\xff", 232)})
}

// wrong tells pages that may not be put.
func wrong() []api.Page {
	l := []api.Page{{}}
	for _, kind := range []int{math.MinInt, -1, 0, 6, 255, 259, math.MaxInt} {
		l = append(l, api.Page{Kind: kind, Id: 3, Tx: 9, Body: "kind"})
	}
	for _, id := range []int{0, 1, 2, 3, 3999} {
		l = append(l, api.Page{Kind: api.Meta, Id: id, Tx: id, Body: "meta"})
	}
	for _, id := range []int{math.MinInt, -2, -1, 0, 1, 4000, 4001, 65538, math.MaxInt} {
		for _, kind := range []int{api.Free, api.Leaf, api.Twig, api.Over} {
			l = append(l, api.Page{Kind: kind, Id: id, Tx: 9, Body: "id"})
		}
	}
	for _, tx := range []int{math.MinInt, -1, maxTx + 1, math.MaxInt} {
		l = append(l, leaf(3, tx, "tx"))
	}
	for _, n := range []int{233, 256, 70000} {
		l = append(l, leaf(3, 9, strings.Repeat("b", n)))
	}
	return l
}

// name tells a page for a message.
func name(p api.Page) string {
	return "kind " + strconv.Itoa(p.Kind) + ", id " + strconv.Itoa(p.Id) + ", tx " + strconv.Itoa(p.Tx) + ", " + strconv.Itoa(len(p.Body)) + " bytes"
}

// open is Open of a file that can be opened.
func open(t *testing.T, d *disk.Disk, name string) *store.Store {
	t.Helper()
	s, e := store.Open(d, name)
	if e != api.OK || s == nil {
		t.Fatalf("Open of %q: error %d", name, e)
	}
	return s
}

// start tells a new disk, and a file on it that is not there yet.
func start(t *testing.T) (*disk.Disk, *store.Store) {
	t.Helper()
	d := disk.New(0)
	return d, open(t, d, "f")
}

// sector is page.Lay of a page that may be.
func sector(t *testing.T, p api.Page) string {
	t.Helper()
	b, e := page.Lay(p)
	if e != api.OK {
		t.Fatalf("page.Lay of %s: error %d", name(p), e)
	}
	return b
}

// write writes a sector past the store.
func write(t *testing.T, d *disk.Disk, at int, data string) {
	t.Helper()
	if e := d.Write("f", at, data); e != api.OK {
		t.Fatalf("Write at %d: error %d", at, e)
	}
}

// fill writes sectors of zero bytes past the store, until there are n.
func fill(t *testing.T, d *disk.Disk, n int) {
	t.Helper()
	for at := range n {
		write(t, d, at, zeros())
	}
}

// file tells the sectors of a file; none, if it is not there.
func file(d *disk.Disk, name string) []string {
	var l []string
	n, _ := d.Size(name)
	for at := range n {
		b, _ := d.Read(name, at)
		l = append(l, b)
	}
	return l
}

// check holds an error against the one that is wanted.
func check(t *testing.T, what string, got, want api.Errno) {
	t.Helper()
	if got != want {
		t.Errorf("%s: error %d, not %d", what, got, want)
	}
}

// checkInt holds a number against the one that is wanted.
func checkInt(t *testing.T, what string, got, want int) {
	t.Helper()
	if got != want {
		t.Errorf("%s: %d, not %d", what, got, want)
	}
}

// checkGet holds what Get tells against the page or the error that are wanted.
func checkGet(t *testing.T, what string, s *store.Store, id int, want api.Page, bad api.Errno) {
	t.Helper()
	if got, e := s.Get(id); got != want || e != bad {
		t.Errorf("%s: Get of %d: %+v, %d, not %+v, %d", what, id, got, e, want, bad)
	}
}

// checkBad holds Get to tell an error, and no page.
func checkBad(t *testing.T, what string, s *store.Store, id int, bad api.Errno) {
	t.Helper()
	checkGet(t, what, s, id, api.Page{}, bad)
}

// checkFile holds the sectors of the file f against those that are wanted.
func checkFile(t *testing.T, what string, d *disk.Disk, want ...string) {
	t.Helper()
	got := file(d, "f")
	if len(got) != len(want) {
		t.Errorf("%s: %d sectors, not %d", what, len(got), len(want))
		return
	}
	for at, b := range got {
		if b != want[at] {
			t.Errorf("%s: sector %d is %q, not %q", what, at, b, want[at])
		}
	}
}

// checkNothing holds a disk to have nothing, and to have seen no write.
func checkNothing(t *testing.T, what string, d *disk.Disk) {
	t.Helper()
	if l := d.List(""); len(l) != 0 || d.Used() != 0 || d.Dirty() != 0 {
		t.Errorf("%s: files %q, %d sectors, %d writes", what, l, d.Used(), d.Dirty())
	}
}

func TestP801Open(t *testing.T) {
	for _, name := range []string{"a", "f.new", "\x00", strings.Repeat("n", 39), strings.Repeat("n", 40)} {
		d := disk.New(0)
		s := open(t, d, name)
		if s.Name() != name {
			t.Errorf("the name of %q is %q", name, s.Name())
		}
		checkInt(t, "Size of "+name, s.Size(), 0)
		checkInt(t, "Reads of "+name, s.Reads(), 0)
		checkNothing(t, "Open of "+name, d)
		check(t, "Put into "+name, s.Put(leaf(2, 1, "a")), api.OK)
		if l := d.List(""); !slices.Equal(l, []string{name}) {
			t.Errorf("Put into %q: files %q", name, l)
		}
	}
}

func TestP801OpenOfNone(t *testing.T) {
	on, off := disk.New(0), disk.New(0)
	off.Crash()
	long := strings.Repeat("n", 41)
	for what, c := range map[string]struct {
		d    *disk.Disk
		name string
		want api.Errno
	}{
		"no disk":                 {nil, "f", api.ErrArg},
		"no disk, no name":        {nil, "", api.ErrArg},
		"no name":                 {on, "", api.ErrArg},
		"a long name":             {on, long, api.ErrArg},
		"a far too long name":     {on, strings.Repeat("n", 70000), api.ErrArg},
		"no power":                {off, "f", api.ErrOff},
		"no power, a name of 40":  {off, long[:40], api.ErrOff},
		"no power, no name":       {off, "", api.ErrArg},
		"no power, a long name":   {off, long, api.ErrArg},
		"no power, a longer name": {off, long + long, api.ErrArg},
	} {
		s, e := store.Open(c.d, c.name)
		check(t, what, e, c.want)
		if s != nil {
			t.Errorf("%s: a store", what)
		}
	}
	checkNothing(t, "Open of none", on)
}

// What is there stays as it is, and opening a file is no change of it.
func TestP801OpenOfAFileThatIsThere(t *testing.T) {
	d, s := start(t)
	p := leaf(2, 5, "there")
	check(t, "Put", s.Put(p), api.OK)
	d.Arm(0)
	again := open(t, d, "f")
	if !d.On() || d.Dirty() != 3 {
		t.Errorf("behind Open: power %t, %d writes", d.On(), d.Dirty())
	}
	checkGet(t, "opened again", again, 2, p, api.OK)
	checkFile(t, "opened again", d, zeros(), zeros(), sector(t, p))
}

func TestP801Example(t *testing.T) {
	_, s := start(t)
	p := leaf(3, 9, "ab")
	check(t, "Put", s.Put(p), api.OK)
	checkInt(t, "Size", s.Size(), 4)
	checkGet(t, "the example", s, 3, p, api.OK)
}

func TestP801GetTellsWhatWasPut(t *testing.T) {
	for _, p := range pages() {
		d, s := start(t)
		check(t, "Put of "+name(p), s.Put(p), api.OK)
		checkInt(t, "Size behind "+name(p), s.Size(), p.Id+1)
		checkGet(t, "the page", s, p.Id, p, api.OK)
		checkGet(t, "once more", s, p.Id, p, api.OK)
		if b, _ := d.Read("f", p.Id); b != sector(t, p) {
			t.Errorf("the sector of %s: %q", name(p), b)
		}
	}
	d, s := start(t)
	check(t, "Put of all", s.Put(pages()...), api.OK)
	checkInt(t, "Size behind all", s.Size(), 4000)
	for _, p := range pages() {
		checkGet(t, "of all", s, p.Id, p, api.OK)
		checkGet(t, "of all, by another one", open(t, d, "f"), p.Id, p, api.OK)
	}
}

func TestP801GetOfNone(t *testing.T) {
	d, s := start(t)
	ids := []int{math.MinInt, -1, 0, 1, 2, 3, 4, 3999, 4000, 4001, math.MaxInt}
	for _, id := range ids {
		checkBad(t, "no file", s, id, api.ErrNone)
	}
	check(t, "Put", s.Put(leaf(3, 9, "ab")), api.OK)
	for _, id := range ids {
		switch {
		case id < 0 || id > 3:
			checkBad(t, "no such sector", s, id, api.ErrRange)
		case id < 3:
			checkBad(t, "zero bytes", s, id, api.ErrForm)
		}
	}
	d.Cut("f", 3)
	checkBad(t, "cut away", s, 3, api.ErrRange)
	d.Remove("f")
	checkBad(t, "removed", s, 2, api.ErrNone)
	d.Crash()
	for _, id := range ids {
		checkBad(t, "no power", s, id, api.ErrOff)
	}
	checkInt(t, "Reads", s.Reads(), 0)
}

func TestP801GetOfASpoiltSector(t *testing.T) {
	p := leaf(3, 9, "ab")
	b, other := sector(t, p), sector(t, leaf(3, 10, "cd"))
	spoil := func(at int) string { return b[:at] + string([]byte{b[at] ^ 1}) + b[at+1:] }
	for what, c := range map[string]struct {
		b    string
		want api.Errno
	}{
		"a wrong sum":                 {spoil(248), api.ErrSum},
		"another body":                {spoil(16), api.ErrSum},
		"another id, and a wrong sum": {spoil(2), api.ErrSum},
		"a length of one more":        {spoil(1), api.ErrSum},
		"a byte behind the body":      {spoil(100), api.ErrForm},
		"another number at the end":   {spoil(255), api.ErrForm},
		"torn":                        {other[:100] + b[100:], api.ErrForm},
		"zero bytes":                  {zeros(), api.ErrForm},
		"no bytes but 255":            {strings.Repeat("\xff", 256), api.ErrForm},
	} {
		d, s := start(t)
		fill(t, d, 3)
		write(t, d, 3, c.b)
		checkBad(t, what, s, 3, c.want)
		checkInt(t, what+": Reads", s.Reads(), 0)
		check(t, what+": Put upon it", s.Put(p), api.OK)
		checkGet(t, what+", put anew", s, 3, p, api.OK)
	}
}

// These are pages as they may be, but not ones that belong where they stand.
func TestP801GetOfAnotherPage(t *testing.T) {
	d, s := start(t)
	fill(t, d, 6)
	first, _ := meta.Lay(meta.First())
	second, _ := meta.Lay(meta.Meta{Tx: 2, Pages: 2})
	write(t, d, 0, second)
	write(t, d, 1, first)
	write(t, d, 2, sector(t, leaf(3, 9, "the next one")))
	write(t, d, 3, sector(t, leaf(2, 9, "the one ahead")))
	write(t, d, 4, sector(t, api.Page{Kind: api.Meta, Id: 4, Tx: 4, Body: "a meta's kind"}))
	write(t, d, 5, sector(t, leaf(5, 9, "itself")))
	for id := range 5 {
		checkBad(t, "another page", s, id, api.ErrBroken)
	}
	checkGet(t, "the page itself", s, 5, leaf(5, 9, "itself"), api.OK)
	write(t, d, 0, sector(t, leaf(1, 9, "the next one")))
	write(t, d, 1, sector(t, leaf(3999, 9, "the last one")))
	write(t, d, 4, first[:248]+"\x00\x00\x00\x00"+first[252:])
	checkBad(t, "another page in 0", s, 0, api.ErrBroken)
	checkBad(t, "another page in 1", s, 1, api.ErrBroken)
	checkBad(t, "another page, and a wrong sum", s, 4, api.ErrSum)
}

func TestP801PutFillsUp(t *testing.T) {
	d, s := start(t)
	z := zeros()
	two, four, seven := leaf(2, 5, "two"), leaf(4, 6, "four"), leaf(7, 7, "seven")
	b2, b4, b7 := sector(t, two), sector(t, four), sector(t, seven)
	check(t, "Put of 4", s.Put(four), api.OK)
	checkFile(t, "4", d, z, z, z, z, b4)
	check(t, "Put of 2", s.Put(two), api.OK)
	checkFile(t, "4, 2", d, z, z, b2, z, b4)
	check(t, "Put of 7", s.Put(seven), api.OK)
	checkFile(t, "4, 2, 7", d, z, z, b2, z, b4, z, z, b7)
	checkInt(t, "Dirty", d.Dirty(), 5+1+3)
	newer := leaf(4, 8, "newer")
	check(t, "Put of 4 again", s.Put(newer), api.OK)
	checkFile(t, "4 again", d, z, z, b2, z, sector(t, newer), z, z, b7)
	checkGet(t, "4 again", s, 4, newer, api.OK)
	checkInt(t, "Size", s.Size(), 8)
}

// What is there is not written over by what fills up.
func TestP801PutBehindOtherSectors(t *testing.T) {
	for n := range 6 {
		d, s := start(t)
		var want []string
		for at := range n {
			want = append(want, strings.Repeat(strconv.Itoa(at), 256))
			write(t, d, at, want[at])
		}
		p := leaf(4, 6, "four")
		check(t, "Put", s.Put(p), api.OK)
		for len(want) < 5 {
			want = append(want, zeros())
		}
		want[4] = sector(t, p)
		checkFile(t, strconv.Itoa(n)+" sectors ahead", d, want...)
	}
}

// Which writes there are, and in which order they come, is what a crash tells.
func TestP801PutWritesInOrder(t *testing.T) {
	z := zeros()
	l := []api.Page{leaf(5, 1, "a"), leaf(2, 2, "b"), leaf(7, 3, "c"), leaf(5, 4, "d")}
	a, b, c, e := sector(t, l[0]), sector(t, l[1]), sector(t, l[2]), sector(t, l[3])
	for what, k := range map[string]struct {
		kept []int // which of the 10 writes
		want []string
	}{
		"none":                    {nil, nil},
		"the first sector":        {[]int{0}, []string{z}},
		"the last zeros ahead":    {[]int{4}, []string{z, z, z, z, z}},
		"the first page":          {[]int{5}, []string{z, z, z, z, z, a}},
		"the second page":         {[]int{6}, []string{z, z, b}},
		"the zeros ahead of 7":    {[]int{7}, []string{z, z, z, z, z, z, z}},
		"the third page":          {[]int{8}, []string{z, z, z, z, z, z, z, c}},
		"the last page":           {[]int{9}, []string{z, z, z, z, z, e}},
		"the first and the last":  {[]int{5, 9}, []string{z, z, z, z, z, e}},
		"the first and the third": {[]int{5, 8}, []string{z, z, z, z, z, a, z, c}},
	} {
		d, s := start(t)
		check(t, "Put", s.Put(l...), api.OK)
		checkInt(t, "Dirty", d.Dirty(), 10)
		keep := make([]int, 10)
		for _, i := range k.kept {
			keep[i] = api.Sector
		}
		checkInt(t, what+": lost", d.Crash(keep...), 10-len(k.kept))
		d.Restore()
		checkFile(t, what, d, k.want...)
	}
}

// One that may not be keeps all from being written, wherever it stands.
func TestP801PutOfAWrongPage(t *testing.T) {
	good := []api.Page{leaf(2, 1, "a"), leaf(9, 1, "b"), leaf(3, 1, "c")}
	for _, p := range wrong() {
		d, s := start(t)
		check(t, "Put of "+name(p), s.Put(p), api.ErrArg)
		for i := range 4 {
			check(t, "Put with "+name(p), s.Put(slices.Insert(slices.Clone(good), i, p)...), api.ErrArg)
		}
		checkNothing(t, name(p), d)
		d.Crash()
		check(t, "Put without power of "+name(p), s.Put(good[0], p), api.ErrArg)
		d.Restore()
		check(t, "Put behind it", s.Put(good...), api.OK)
		before := file(d, "f")
		check(t, "Put upon the others with "+name(p), s.Put(leaf(2, 7, "x"), p, leaf(3, 7, "y")), api.ErrArg)
		checkFile(t, name(p), d, before...)
	}
}

func TestP801PutOfNone(t *testing.T) {
	d, s := start(t)
	check(t, "Put of none", s.Put(), api.OK)
	check(t, "Put of an empty list", s.Put([]api.Page{}...), api.OK)
	checkNothing(t, "Put of none", d)
}

func TestP801PutWithoutPower(t *testing.T) {
	d, s := start(t)
	d.Crash()
	check(t, "Put without power", s.Put(leaf(2, 1, "a")), api.ErrOff)
	d.Restore()
	checkNothing(t, "Put without power", d)
	check(t, "Put with power", s.Put(leaf(2, 1, "a")), api.OK)
	check(t, "Sync", s.Sync(), api.OK)
	d.Crash()
	check(t, "Put upon it without power", s.Put(leaf(2, 2, "b"), leaf(9, 2, "c")), api.ErrOff)
	d.Restore()
	checkFile(t, "Put upon it without power", d, zeros(), zeros(), sector(t, leaf(2, 1, "a")))
}

// The first error of the disk ends it: what stands ahead is written, and no more.
func TestP801PutWithoutRoom(t *testing.T) {
	z := zeros()
	l := []api.Page{leaf(3, 1, "a"), leaf(2, 1, "b"), leaf(6, 1, "c"), leaf(2, 2, "d")}
	a, b, c, e := sector(t, l[0]), sector(t, l[1]), sector(t, l[2]), sector(t, l[3])
	for room, want := range map[int][]string{
		1: {z},
		2: {z, z},
		3: {z, z, z},
		4: {z, z, b, a},
		5: {z, z, b, a, z},
		6: {z, z, b, a, z, z},
		7: {z, z, e, a, z, z, c},
	} {
		d := disk.New(room)
		s := open(t, d, "f")
		bad := api.ErrFull
		if room == 7 {
			bad = api.OK
		}
		what := "room for " + strconv.Itoa(room)
		check(t, what, s.Put(l...), bad)
		checkFile(t, what, d, want...)
		checkInt(t, what+": Size", s.Size(), room)
		d.Room(0)
		check(t, what+", and then more", s.Put(l...), api.OK)
		checkFile(t, what+", and then more", d, z, z, e, a, z, z, c)
	}
}

func TestP801PutWhereFilesAreFull(t *testing.T) {
	d, s := start(t)
	for i := range api.MaxFiles {
		d.Write("g"+strconv.Itoa(i), 0, zeros())
	}
	check(t, "Put into a file too many", s.Put(leaf(2, 1, "a")), api.ErrFull)
	check(t, "SetMeta into a file too many", s.SetMeta(meta.First()), api.ErrFull)
	checkInt(t, "Size", s.Size(), 0)
	d.Remove("g7")
	check(t, "Put into the last file", s.Put(leaf(2, 1, "a")), api.OK)
	checkInt(t, "Size", s.Size(), 3)
}

// The power goes at each of the writes: those ahead of it, and it, may be kept, none behind it is there.
func TestP801PutWhereThePowerGoes(t *testing.T) {
	z := zeros()
	l := []api.Page{leaf(4, 1, "a"), leaf(2, 1, "b"), leaf(5, 1, "c")}
	a, b := sector(t, l[0]), sector(t, l[1])
	for n, want := range [][]string{{z}, {z, z}, {z, z, z}, {z, z, z, z}, {z, z, z, z, a}, {z, z, b, z, a}, {z, z, b, z, a, sector(t, l[2])}} {
		d, s := start(t)
		d.Arm(n, 256, 256, 256, 256, 256, 256, 256, 256)
		what := strconv.Itoa(n) + " writes are done"
		check(t, what, s.Put(l...), api.ErrOff)
		checkInt(t, what+": Size", s.Size(), 0)
		d.Restore()
		checkFile(t, what, d, want...)
	}
	d, s := start(t)
	d.Arm(7)
	check(t, "all are done", s.Put(l...), api.OK)
	check(t, "Sync", s.Sync(), api.ErrOff)
}

func TestP801Size(t *testing.T) {
	d, s := start(t)
	checkInt(t, "no file", s.Size(), 0)
	for _, id := range []int{2, 7, 3, 3999} {
		check(t, "Put", s.Put(leaf(id, 1, "a")), api.OK)
		n, _ := d.Size("f")
		checkInt(t, "Size", s.Size(), n)
	}
	checkInt(t, "a full file", s.Size(), 4000)
	d.Cut("f", 5)
	checkInt(t, "cut", s.Size(), 5)
	d.Cut("f", 0)
	checkInt(t, "a file of no sectors", s.Size(), 0)
	check(t, "Put into a file of no sectors", s.Put(leaf(2, 1, "a")), api.OK)
	check(t, "Sync", s.Sync(), api.OK)
	d.Crash()
	checkInt(t, "no power", s.Size(), 0)
	d.Restore()
	checkInt(t, "power", s.Size(), 3)
	d.Rename("f", "g")
	checkInt(t, "renamed", s.Size(), 0)
	checkInt(t, "renamed, by its name", open(t, d, "g").Size(), 3)
}

func TestP801FilesAreApart(t *testing.T) {
	d := disk.New(0)
	f, g, again := open(t, d, "f"), open(t, d, "g"), open(t, d, "f")
	p, q := leaf(3, 1, "in f"), leaf(3, 2, "in g")
	check(t, "Put into f", f.Put(p), api.OK)
	checkInt(t, "Size of g", g.Size(), 0)
	checkBad(t, "in f alone", g, 3, api.ErrNone)
	check(t, "Put into g", g.Put(q), api.OK)
	checkGet(t, "f", f, 3, p, api.OK)
	checkGet(t, "g", g, 3, q, api.OK)
	newer := leaf(3, 4, "newer")
	check(t, "Put into f by another one", again.Put(newer), api.OK)
	checkGet(t, "f, put by another one", f, 3, newer, api.OK)
	checkGet(t, "g, as it was", g, 3, q, api.OK)
}

// A nil Store tells ErrArg, ahead of all; one that was not opened has no disk.
func TestP801NoStore(t *testing.T) {
	zero := &store.Store{}
	for s, want := range map[*store.Store]api.Errno{nil: api.ErrArg, zero: api.ErrOff} {
		checkBad(t, "none", s, 3, want)
		check(t, "Put", s.Put(leaf(3, 1, "a")), want)
		check(t, "Put of a wrong page", s.Put(leaf(1, 1, "a")), api.ErrArg)
		check(t, "SetMeta", s.SetMeta(meta.First()), want)
		check(t, "SetMeta of a wrong one", s.SetMeta(meta.Meta{}), api.ErrArg)
		check(t, "Sync", s.Sync(), want)
		if m, e := s.Meta(); m != (meta.Meta{}) || e != want {
			t.Errorf("Meta: %+v, %d", m, e)
		}
		if s.Size() != 0 || s.Reads() != 0 || s.Name() != "" {
			t.Errorf("Size %d, Reads %d, Name %q", s.Size(), s.Reads(), s.Name())
		}
	}
	var none *store.Store
	check(t, "Put of none into none", none.Put(), api.ErrArg)
}
