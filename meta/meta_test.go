package meta_test

import (
	"encoding/binary"
	"hash/crc32"
	"math"
	"strconv"
	"strings"
	"testing"

	"rootstock/api"
	"rootstock/disk"
	"rootstock/meta"
	"rootstock/page"
)

const maxTx = 1 << 40

// metas tells metas that may be: the edges of each part, in both slots.
func metas() []meta.Meta {
	l := []meta.Meta{meta.First()}
	for _, tx := range []int{1, 2, 3, 255, 256, 1<<31 - 1, 1 << 31, 1<<32 - 1, 1 << 32, 1<<32 + 1, maxTx - 1, maxTx} {
		l = append(l, meta.Meta{Tx: tx, Root: 5, Free: 7, Pages: 9})
	}
	for _, pages := range []int{2, 3, 4, 255, 256, 257, 3999, 4000} {
		l = append(l, meta.Meta{Tx: 8, Pages: pages})
	}
	for _, id := range []int{0, 2, 3, 255, 256, 3998, 3999} {
		l = append(l,
			meta.Meta{Tx: 9, Root: id, Pages: 4000},
			meta.Meta{Tx: 9, Free: id, Pages: 4000},
			meta.Meta{Tx: 9, Root: id, Free: 1000, Pages: 4000},
			meta.Meta{Tx: 9, Root: 1000, Free: id, Pages: 4000})
	}
	return append(l,
		meta.Meta{Tx: 4, Root: 2, Pages: 3},
		meta.Meta{Tx: 4, Free: 2, Pages: 3},
		meta.Meta{Tx: 4, Root: 2, Free: 3, Pages: 4},
		meta.Meta{Tx: 4, Root: 3, Free: 2, Pages: 4},
		meta.Meta{Tx: maxTx, Root: 3999, Free: 3998, Pages: 4000},
		meta.Meta{Tx: maxTx - 1, Root: 3998, Free: 3999, Pages: 4000})
}

// wrong tells metas that may not be.
func wrong() []meta.Meta {
	l := []meta.Meta{{}, {Tx: 1}, {Pages: 2}}
	for _, tx := range []int{math.MinInt, -maxTx, -2, -1, 0, maxTx + 1, maxTx + 2, 1 << 41, 1<<62 + 1, math.MaxInt} {
		l = append(l, meta.Meta{Tx: tx, Root: 2, Free: 3, Pages: 9}, meta.Meta{Tx: tx, Pages: 2})
	}
	for _, pages := range []int{math.MinInt, -1, 0, 1, 4001, 65536, 1<<32 + 9, math.MaxInt} {
		l = append(l, meta.Meta{Tx: 1, Pages: pages}, meta.Meta{Tx: 2, Root: 2, Free: 3, Pages: pages})
	}
	for _, id := range []int{math.MinInt, -2, -1, 1, 9, 10, 3999, 4000, 65538, 1<<32 + 2, math.MaxInt} {
		l = append(l,
			meta.Meta{Tx: 1, Root: id, Pages: 9},
			meta.Meta{Tx: 1, Free: id, Pages: 9},
			meta.Meta{Tx: 2, Root: id, Free: 3, Pages: 9},
			meta.Meta{Tx: 2, Root: 3, Free: id, Pages: 9},
			meta.Meta{Tx: 2, Root: id, Free: id, Pages: 9})
	}
	for _, id := range []int{2, 3, 8} {
		l = append(l, meta.Meta{Tx: 2, Root: id, Free: id, Pages: 9})
	}
	for _, pages := range []int{2, 3, 4} {
		l = append(l,
			meta.Meta{Tx: 1, Root: pages, Pages: pages},
			meta.Meta{Tx: 1, Free: pages, Pages: pages},
			meta.Meta{Tx: 1, Root: 1, Pages: pages},
			meta.Meta{Tx: 1, Free: 1, Pages: pages})
	}
	return append(l,
		meta.Meta{Tx: 1, Root: 4000, Pages: 4000},
		meta.Meta{Tx: 1, Free: 4000, Pages: 4000},
		meta.Meta{Tx: 1, Root: 3999, Free: 3999, Pages: 4000})
}

// name tells a meta for a message.
func name(m meta.Meta) string {
	return "tx " + strconv.Itoa(m.Tx) + ", root " + strconv.Itoa(m.Root) + ", free " + strconv.Itoa(m.Free) + ", pages " + strconv.Itoa(m.Pages)
}

// seal puts the sum that fits into a sector, by another way than the packages below.
func seal(b []byte) {
	binary.LittleEndian.PutUint32(b[248:], crc32.Checksum(b[:248], crc32.MakeTable(crc32.Castagnoli)))
}

// sector lays a meta as P601 tells it, byte for byte, also one that may not be.
func sector(m meta.Meta) []byte {
	b := make([]byte, 256)
	b[0], b[1], b[2] = 1, 32, byte(uint(m.Tx)%2)
	binary.LittleEndian.PutUint32(b[4:], uint32(m.Tx))
	binary.LittleEndian.PutUint64(b[8:], uint64(m.Tx))
	for i, v := range []int{m.Tx, m.Root, m.Free, m.Pages} {
		binary.LittleEndian.PutUint64(b[16+8*i:], uint64(v))
	}
	seal(b)
	binary.LittleEndian.PutUint32(b[252:], uint32(m.Tx))
	return b
}

// body tells the 32 bytes of a meta.
func body(m meta.Meta) string { return string(sector(m)[16:48]) }

// lay is meta.Lay of a meta that may be.
func lay(t *testing.T, m meta.Meta) string {
	t.Helper()
	b, e := meta.Lay(m)
	if e != api.OK || len(b) != api.Sector {
		t.Fatalf("Lay of %s: %d bytes, error %d", name(m), len(b), e)
	}
	return b
}

// layPage is page.Lay of a page that may be.
func layPage(t *testing.T, p api.Page) string {
	t.Helper()
	b, e := page.Lay(p)
	if e != api.OK {
		t.Fatalf("page.Lay of %+v: error %d", p, e)
	}
	return b
}

// checkRead holds what Read tells against the meta or the error that are wanted.
func checkRead(t *testing.T, what, b string, want meta.Meta, bad api.Errno) {
	t.Helper()
	if got, e := meta.Read(b); got != want || e != bad {
		t.Errorf("%s: Read: %+v, %d, not %+v, %d", what, got, e, want, bad)
	}
}

// checkBad holds Read to tell an error of bytes, and no meta.
func checkBad(t *testing.T, what, b string, bad api.Errno) {
	t.Helper()
	checkRead(t, what, b, meta.Meta{}, bad)
}

// checkChoose holds what Choose tells against the meta that is wanted.
func checkChoose(t *testing.T, what, a, b string, want meta.Meta) {
	t.Helper()
	if got, e := meta.Choose(a, b); got != want || e != api.OK {
		t.Errorf("%s: Choose: %+v, %d, not %+v", what, got, e, want)
	}
}

// checkNone holds Choose to tell that there is no meta.
func checkNone(t *testing.T, what, a, b string) {
	t.Helper()
	if got, e := meta.Choose(a, b); got != (meta.Meta{}) || e != api.ErrBroken {
		t.Errorf("%s: Choose: %+v, %d", what, got, e)
	}
}

// judge tells by P601, from the bytes alone, what Read is to say of a sector.
func judge(b []byte) api.Errno {
	if e := judgePage(b); e != api.OK {
		return e
	}
	part := func(i int) int { return int(binary.LittleEndian.Uint64(b[16+8*i:])) }
	tx, root, free, pages := part(0), part(1), part(2), part(3)
	place := func(id int) bool { return id == 0 || 2 <= id && id <= pages-1 }
	switch {
	case b[0] != 1, b[1] != 32, string(b[8:16]) != string(b[16:24]):
		return api.ErrForm
	case int(b[2])+int(b[3])<<8 != int(uint(tx)%2):
		return api.ErrForm
	case tx < 1, tx > maxTx, pages < 2, pages > 4000:
		return api.ErrForm
	case !place(root), !place(free), root != 0 && root == free:
		return api.ErrForm
	}
	return api.OK
}

// judgePage tells by P501 what page.Read is to say of a sector.
func judgePage(b []byte) api.Errno {
	tx, size := binary.LittleEndian.Uint64(b[8:]), int(b[1])
	switch {
	case b[0] < 1 || b[0] > 5, size > 232, binary.LittleEndian.Uint16(b[2:]) > 3999, tx > maxTx:
		return api.ErrForm
	case string(b[4:8]) != string(b[8:12]), string(b[252:]) != string(b[8:12]):
		return api.ErrForm
	case strings.Trim(string(b[16+size:248]), "\x00") != "":
		return api.ErrForm
	case binary.LittleEndian.Uint32(b[248:]) != crc32.Checksum(b[:248], crc32.MakeTable(crc32.Castagnoli)):
		return api.ErrSum
	}
	return api.OK
}

func TestP601Valid(t *testing.T) {
	for _, m := range metas() {
		if !meta.Valid(m) {
			t.Errorf("a meta may not be: %s", name(m))
		}
	}
	for _, m := range wrong() {
		if meta.Valid(m) {
			t.Errorf("a meta may be: %s", name(m))
		}
	}
}

func TestP601Slot(t *testing.T) {
	for tx, want := range map[int]int{
		0: 0, 1: 1, 2: 0, 3: 1, 254: 0, 255: 1, 1<<32 - 1: 1, 1 << 32: 0, 1<<32 + 1: 1, maxTx - 1: 1, maxTx: 0,
		-1: 1, -2: 0, -3: 1, math.MinInt: 0, math.MinInt + 1: 1, math.MaxInt - 1: 0, math.MaxInt: 1,
	} {
		if got := meta.Slot(tx); got != want {
			t.Errorf("Slot of %d: %d", tx, got)
		}
	}
}

func TestP601Lay(t *testing.T) {
	low := "\x01\x00\x00\x00\x00\x00\x00\x00"
	none := "\x00\x00\x00\x00\x00\x00\x00\x00"
	first := lay(t, meta.Meta{Tx: 1, Pages: 2})
	if first[:48] != "\x01\x20\x01\x00\x01\x00\x00\x00"+low+low+none+none+"\x02\x00\x00\x00\x00\x00\x00\x00" ||
		first[48:248] != strings.Repeat("\x00", 200) || first[252:] != "\x01\x00\x00\x00" {
		t.Errorf("the first one: %q", first)
	}
	tx := "\x06\x05\x04\x03\x02\x00\x00\x00"
	other := lay(t, meta.Meta{Tx: 0x0203040506, Root: 0x0102, Free: 0x0304, Pages: 0x0506})
	if other[:48] != "\x01\x20\x00\x00\x06\x05\x04\x03"+tx+tx+"\x02\x01\x00\x00\x00\x00\x00\x00\x04\x03\x00\x00\x00\x00\x00\x00\x06\x05\x00\x00\x00\x00\x00\x00" ||
		other[48:248] != strings.Repeat("\x00", 200) || other[252:] != "\x06\x05\x04\x03" {
		t.Errorf("another one: %q", other)
	}
	for _, m := range metas() {
		b := lay(t, m)
		if b != string(sector(m)) {
			t.Errorf("Lay of %s: %q, not %q", name(m), b, sector(m))
		}
		p, e := page.Read(b)
		if want := (api.Page{Kind: api.Meta, Id: meta.Slot(m.Tx), Tx: m.Tx, Body: body(m)}); p != want || e != api.OK {
			t.Errorf("the page of %s: %+v, %d", name(m), p, e)
		}
	}
}

func TestP601LayOfNoMeta(t *testing.T) {
	for _, m := range wrong() {
		if b, e := meta.Lay(m); b != "" || e != api.ErrArg {
			t.Errorf("Lay of %s: %q, %d", name(m), b, e)
		}
	}
}

func TestP601ReadsWhatLayLays(t *testing.T) {
	for _, m := range metas() {
		b := lay(t, m)
		checkRead(t, name(m), b, m, api.OK)
		checkRead(t, name(m)+", once more", b, m, api.OK)
		checkRead(t, name(m)+", laid otherwise", string(sector(m)), m, api.OK)
	}
}

func TestP601ReadOfNoPage(t *testing.T) {
	b := lay(t, meta.Meta{Tx: 9, Root: 2, Free: 3, Pages: 4})
	for n := range 2*api.Sector + 1 {
		if n != api.Sector {
			checkBad(t, strconv.Itoa(n)+" bytes", (b + b)[:n], api.ErrShort)
		}
	}
	checkBad(t, "zero bytes", strings.Repeat("\x00", 256), api.ErrForm)
	checkBad(t, "no bytes but 255", strings.Repeat("\xff", 256), api.ErrForm)
	checkBad(t, "another number at the end", b[:252]+"\x0b\x00\x00\x00", api.ErrForm)
	checkBad(t, "another number at the end, and a wrong sum", b[:251]+"?\x0b\x00\x00\x00", api.ErrForm)
	for i := 248; i < 252; i++ {
		c := []byte(b)
		c[i] ^= 1
		checkBad(t, "a wrong sum", string(c), api.ErrSum)
	}
	// What page.Read tells counts ahead of what is no meta.
	c := sector(meta.Meta{Tx: 9, Root: 2, Free: 2, Pages: 4})
	c[250] ^= 1
	checkBad(t, "no meta, and a wrong sum", string(c), api.ErrSum)
}

// Each of these is a page as it may be, with a sum that fits: it is just no meta.
func TestP601ReadOfAnotherPage(t *testing.T) {
	m := meta.Meta{Tx: 9, Root: 2, Free: 3, Pages: 4}
	good := api.Page{Kind: api.Meta, Id: 1, Tx: 9, Body: body(m)}
	checkRead(t, "the page itself", layPage(t, good), m, api.OK)
	for what, f := range map[string]func(p *api.Page){
		"a free page":               func(p *api.Page) { p.Kind = api.Free },
		"a leaf":                    func(p *api.Page) { p.Kind = api.Leaf },
		"a twig":                    func(p *api.Page) { p.Kind = api.Twig },
		"a page of a value":         func(p *api.Page) { p.Kind = api.Over },
		"the other slot":            func(p *api.Page) { p.Id = 0 },
		"no slot":                   func(p *api.Page) { p.Id = 3 },
		"another page":              func(p *api.Page) { p.Id = 3999 },
		"another Tx of the page":    func(p *api.Page) { p.Tx = 11 },
		"a Tx beyond 4 bytes":       func(p *api.Page) { p.Tx = 1<<32 + 9 },
		"no Tx of the page":         func(p *api.Page) { p.Tx = 0 },
		"another Tx of the meta":    func(p *api.Page) { p.Body = body(meta.Meta{Tx: 7, Root: 2, Free: 3, Pages: 4}) },
		"no body":                   func(p *api.Page) { p.Body = "" },
		"a Tx alone":                func(p *api.Page) { p.Body = p.Body[:8] },
		"no Pages":                  func(p *api.Page) { p.Body = p.Body[:24] },
		"a byte too few":            func(p *api.Page) { p.Body = p.Body[:31] },
		"a byte too many":           func(p *api.Page) { p.Body += "\x00" },
		"another number behind it":  func(p *api.Page) { p.Body += strings.Repeat("\x00", 8) },
		"the same behind it":        func(p *api.Page) { p.Body += p.Body },
		"all bytes of a body":       func(p *api.Page) { p.Body += strings.Repeat("\x00", 200) },
		"the lower byte at the end": func(p *api.Page) { p.Body = p.Body[1:] },
	} {
		p := good
		f(&p)
		checkBad(t, what, layPage(t, p), api.ErrForm)
	}
}

// Each of these is laid as a meta is, but it may not be.
func TestP601ReadOfAMetaThatMayNotBe(t *testing.T) {
	for _, m := range wrong() {
		checkBad(t, name(m), string(sector(m)), api.ErrForm)
	}
}

func TestP601ReadOfOneChangedByte(t *testing.T) {
	for _, sealed := range []bool{false, true} {
		whole := sector(meta.Meta{Tx: 0x0304050607, Root: 0x0102, Free: 0x0301, Pages: 0x0302})
		for i := range whole {
			for by := 1; by < 256; by++ {
				b := []byte(string(whole))
				b[i] ^= byte(by)
				if sealed {
					seal(b)
				}
				checkJudged(t, b)
			}
		}
	}
}

// checkJudged holds Read to say of a sector what its bytes alone tell.
func checkJudged(t *testing.T, b []byte) api.Errno {
	t.Helper()
	bad := judge(b)
	m, e := meta.Read(string(b))
	if e != bad || bad != api.OK && m != (meta.Meta{}) {
		t.Fatalf("Read of %q: %+v, %d, not %d", b, m, e, bad)
	}
	if bad == api.OK && lay(t, m) != string(b) {
		t.Fatalf("Read of %q: %+v", b, m)
	}
	return bad
}

// Some bytes of a sector become others; in each second one the sum is made to fit.
func TestP601ReadOfMoreThanOneChangedByte(t *testing.T) {
	told := map[api.Errno]int{}
	x := uint32(1)
	next := func(n int) int {
		x = x*1664525 + 1013904223
		return int(x>>8) % n
	}
	l := metas()
	for i := range 60000 {
		b := sector(l[next(len(l))])
		for range 1 + next(2) {
			b[next(64)&next(64)] = byte(next(256) & next(256))
		}
		if i%2 == 0 {
			seal(b)
		}
		told[checkJudged(t, b)]++
	}
	for _, e := range []api.Errno{api.OK, api.ErrForm, api.ErrSum} {
		if told[e] < 1000 {
			t.Errorf("error %d came but %d times", e, told[e])
		}
	}
}

func TestP602ChooseOfTwo(t *testing.T) {
	two, three := meta.Meta{Tx: 2, Root: 2, Pages: 3}, meta.Meta{Tx: 3, Root: 3, Free: 4, Pages: 5}
	checkChoose(t, "the example", lay(t, two), lay(t, three), three)
	l := metas()
	for _, m := range l {
		for _, n := range l {
			a, b := lay(t, m), lay(t, n)
			what := name(m) + "; " + name(n)
			switch left, right := m.Tx%2 == 0, n.Tx%2 == 1; {
			case left && right && m.Tx > n.Tx, left && !right:
				checkChoose(t, what, a, b, m)
			case right:
				checkChoose(t, what, a, b, n)
			default:
				checkNone(t, what, a, b)
			}
		}
	}
}

func TestP602ChooseWhereOneIsNone(t *testing.T) {
	even, odd := meta.Meta{Tx: 8, Root: 2, Pages: 3}, meta.Meta{Tx: 9, Root: 3, Free: 2, Pages: 4}
	a, b := lay(t, even), lay(t, odd)
	greater := lay(t, meta.Meta{Tx: 10, Root: 2, Pages: 3})
	spoilt := func(s string, at int) string { return s[:at] + string([]byte{s[at] ^ 1}) + s[at+1:] }
	for what, s := range map[string]string{
		"nothing":                     "",
		"a byte":                      "a",
		"zero bytes":                  strings.Repeat("\x00", 256),
		"less than a sector":          a[:255],
		"more than a sector":          b + "\x00",
		"a wrong number at the front": spoilt(greater, 4),
		"a wrong number at the end":   spoilt(greater, 252),
		"a wrong sum":                 spoilt(greater, 248),
		"a wrong body":                spoilt(greater, 24),
		"a leaf":                      layPage(t, api.Page{Kind: api.Leaf, Id: 0, Tx: 12, Body: greater[16:48]}),
		"a meta that may not be":      string(sector(meta.Meta{Tx: 12, Root: 3, Pages: 3})),
		"another one that may not be": string(sector(meta.Meta{Tx: 13, Root: 1, Pages: 3})),
		"torn":                        greater[:100] + a[100:],
	} {
		checkChoose(t, what+", in 1", a, s, even)
		checkChoose(t, what+", in 0", s, b, odd)
		checkNone(t, what+", twice", s, s)
		checkNone(t, what+", and none", s, "")
		checkNone(t, "none, and "+what, "", s)
	}
}

// A meta in the slot of the other one does not count, how great its Tx may be.
func TestP602ChooseOfTheWrongSlot(t *testing.T) {
	even, odd := meta.Meta{Tx: 8, Root: 2, Pages: 3}, meta.Meta{Tx: 9, Root: 3, Free: 2, Pages: 4}
	a, b := lay(t, even), lay(t, odd)
	checkChoose(t, "each in its own", a, b, odd)
	checkNone(t, "each in the other one's", b, a)
	checkChoose(t, "the even one in both", a, a, even)
	checkChoose(t, "the odd one in both", b, b, odd)
	checkChoose(t, "a greater one in 0", lay(t, meta.Meta{Tx: 11, Pages: 2}), b, odd)
	checkChoose(t, "a greater one in 1", a, lay(t, meta.Meta{Tx: 12, Pages: 2}), even)
	checkNone(t, "the odd one in 0 alone", b, "")
	checkNone(t, "the even one in 1 alone", "", a)
	// Its Id tells the slot that it is read in, but not that of its Tx: it is no meta at all.
	moved := layPage(t, api.Page{Kind: api.Meta, Id: 0, Tx: 11, Body: body(meta.Meta{Tx: 11, Pages: 2})})
	checkChoose(t, "an odd Tx that says 0", moved, b, odd)
	checkNone(t, "an odd Tx that says 0, alone", moved, "")
	moved = layPage(t, api.Page{Kind: api.Meta, Id: 1, Tx: 12, Body: body(meta.Meta{Tx: 12, Pages: 2})})
	checkChoose(t, "an even Tx that says 1", a, moved, even)
	checkNone(t, "an even Tx that says 1, alone", "", moved)
}

func TestP602First(t *testing.T) {
	m := meta.First()
	if m != (meta.Meta{Tx: 1, Root: 0, Free: 0, Pages: 2}) || !meta.Valid(m) || meta.Slot(m.Tx) != 1 {
		t.Errorf("First: %+v", m)
	}
	checkChoose(t, "a new file", "", lay(t, m), m)
	checkChoose(t, "a new file of zero bytes", strings.Repeat("\x00", 256), lay(t, m), m)
}

// write puts a meta where it stands, as one that is not safe yet.
func write(t *testing.T, d *disk.Disk, m meta.Meta) {
	t.Helper()
	if e := d.Write("f", meta.Slot(m.Tx), lay(t, m)); e != api.OK {
		t.Fatalf("Write of %s: error %d", name(m), e)
	}
}

// file tells a disk on which metas were written, each one safe ahead of the next.
func file(t *testing.T, l ...meta.Meta) *disk.Disk {
	t.Helper()
	d := disk.New(0)
	for at := range 2 {
		d.Write("f", at, strings.Repeat("\x00", api.Sector))
	}
	for _, m := range l {
		write(t, d, m)
		d.Sync("f")
	}
	return d
}

// choose tells what the disk's file begins with.
func choose(d *disk.Disk) (meta.Meta, api.Errno) {
	a, _ := d.Read("f", 0)
	b, _ := d.Read("f", 1)
	return meta.Choose(a, b)
}

// after tells some meta that comes behind another one, unlike all that have another Tx or salt.
func after(m meta.Meta, salt int) meta.Meta {
	tx := m.Tx + 1
	n := meta.Meta{Tx: tx, Pages: 4 + (tx*7+salt*1013)%3996}
	n.Root = 2 + (tx+salt)%(n.Pages-2)
	n.Free = 2 + (n.Root-1+salt%2)%(n.Pages-2)
	if n.Root == n.Free {
		n.Free = 0
	}
	return n
}

// However much of the newest meta a crash leaves, it is there, or the one ahead of it.
func TestP603EachTear(t *testing.T) {
	for _, tx := range []int{1, 2, 3, 254, 255, 256, 1<<16 - 1, 1 << 16, 1<<24 - 1, 1<<32 - 2, 1<<32 - 1, 1 << 32, 1<<32 + 1, maxTx - 3, maxTx - 2} {
		one := after(meta.Meta{Tx: tx - 1}, 1)
		two := after(one, 2)
		three := after(two, 3)
		d := file(t, one, two)
		write(t, d, three)
		for k := range api.Sector + 1 {
			c := d.Twin()
			c.Crash(k)
			c.Restore()
			want := two
			if a, _ := c.Read("f", meta.Slot(three.Tx)); a == lay(t, three) {
				want = three
			}
			if m, e := choose(c); m != want || e != api.OK {
				t.Errorf("tx %d, %d bytes are kept: %+v, %d, not %+v", tx, k, m, e, want)
			}
			if k == 0 && want != two || k == api.Sector && want != three {
				t.Errorf("tx %d, %d bytes are kept: the newest is %s", tx, k, name(want))
			}
		}
	}
}

// A first meta has none ahead of it: torn, there is none, but never another one.
func TestP603TheFirst(t *testing.T) {
	for k := range api.Sector + 1 {
		d := disk.New(0)
		d.Write("f", 0, strings.Repeat("\x00", api.Sector))
		write(t, d, meta.First())
		d.Crash(api.Sector, k)
		d.Restore()
		m, e := choose(d)
		whole := m == meta.First() && e == api.OK
		none := m == (meta.Meta{}) && e == api.ErrBroken
		if k == api.Sector && !whole || k <= 252 && !none || !whole && !none {
			t.Errorf("%d bytes are kept: %+v, %d", k, m, e)
		}
	}
}

// The power goes again and again, and each time what was chosen is gone on from.
func TestP603CrashUponCrash(t *testing.T) {
	x := uint32(7)
	next := func(n int) int {
		x = x*1664525 + 1013904223
		return int(x>>8) % n
	}
	newer, older := 0, 0
	for _, tx := range []int{1, 250, 1<<16 - 9, 1<<32 - 20, maxTx - 2000} {
		safe := meta.Meta{Tx: tx, Pages: 2}
		d := file(t, safe)
		for i := range 400 {
			m := after(safe, i)
			write(t, d, m)
			if i%3 == 0 {
				d.Sync("f")
				safe = m
				continue
			}
			d.Crash([]int{0, next(257), 252, 253, 256}[next(5)])
			d.Restore()
			got, e := choose(d)
			if e != api.OK || got != m && got != safe {
				t.Fatalf("%s behind %s: %+v, %d", name(m), name(safe), got, e)
			}
			if got == m {
				newer++
			} else {
				older++
			}
			safe = got
		}
	}
	if newer < 100 || older < 100 {
		t.Errorf("the newest was there %d times, the one ahead %d times", newer, older)
	}
}
