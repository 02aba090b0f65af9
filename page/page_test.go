package page_test

import (
	"encoding/binary"
	"hash/crc32"
	"math"
	"strconv"
	"strings"
	"testing"
	"unsafe"

	"rootstock/api"
	"rootstock/page"
	"rootstock/sum"
)

const maxTx = 1 << 40

// kinds tells the five kinds of pages.
func kinds() []int { return []int{api.Meta, api.Free, api.Leaf, api.Twig, api.Over} }

// every tells a text of n bytes, each another than the ones beside it, none of them 0.
func every(n int) string {
	b := make([]byte, n)
	for i := range b {
		b[i] = byte(255 - i%255)
	}
	return string(b)
}

// pages tells pages that may be: each kind, and the edges of each part.
func pages() []api.Page {
	var l []api.Page
	for _, kind := range kinds() {
		l = append(l, api.Page{Kind: kind, Id: 3, Tx: 9, Body: "ab"})
	}
	for _, id := range []int{0, 1, 2, 255, 256, 3998, 3999} {
		l = append(l, api.Page{Kind: api.Twig, Id: id, Tx: 7, Body: "id"})
	}
	for _, tx := range []int{0, 1, 255, 256, 1<<31 - 1, 1 << 31, 1<<32 - 1, 1 << 32, 1<<32 + 1, 1<<40 - 1, maxTx} {
		l = append(l, api.Page{Kind: api.Over, Id: 17, Tx: tx, Body: "tx"})
	}
	for _, n := range []int{0, 1, 2, 15, 16, 17, 230, 231, 232} {
		l = append(l, api.Page{Kind: api.Leaf, Id: 4, Tx: 11, Body: every(n)})
	}
	return append(l,
		api.Page{Kind: api.Meta},
		api.Page{Kind: api.Over, Id: 3999, Tx: maxTx, Body: strings.Repeat("\xff", 232)},
		api.Page{Kind: api.Leaf, Id: 2, Tx: 3, Body: "\x00"},
		api.Page{Kind: api.Leaf, Id: 2, Tx: 3, Body: "a\x00\x00"},
		api.Page{Kind: api.Leaf, Id: 2, Tx: 3, Body: strings.Repeat("\x00", 232)})
}

// wrong tells pages that may not be.
func wrong() []api.Page {
	var l []api.Page
	for _, kind := range []int{math.MinInt, -1, 0, 6, 7, 255, 256, 257, 259, math.MaxInt} {
		l = append(l, api.Page{Kind: kind, Id: 3, Tx: 9, Body: "ab"})
	}
	for _, id := range []int{math.MinInt, -1, 4000, 4001, 65535, 65536, 65539, math.MaxInt} {
		l = append(l, api.Page{Kind: api.Leaf, Id: id, Tx: 9, Body: "ab"})
	}
	for _, tx := range []int{math.MinInt, -1, maxTx + 1, 1 << 41, math.MaxInt} {
		l = append(l, api.Page{Kind: api.Leaf, Id: 3, Tx: tx, Body: "ab"})
	}
	for _, n := range []int{233, 240, 255, 256, 258, 70000} {
		l = append(l, api.Page{Kind: api.Leaf, Id: 3, Tx: 9, Body: every(n)})
	}
	return append(l, api.Page{})
}

// name tells a page for a message.
func name(p api.Page) string {
	return "kind " + strconv.Itoa(p.Kind) + ", id " + strconv.Itoa(p.Id) + ", tx " + strconv.Itoa(p.Tx) + ", " + strconv.Itoa(len(p.Body)) + " bytes"
}

// seal puts the sum that fits into a sector, by another way than package sum.
func seal(b []byte) {
	binary.LittleEndian.PutUint32(b[248:], crc32.Checksum(b[:248], crc32.MakeTable(crc32.Castagnoli)))
}

// sector lays a page as P501 tells it, byte for byte.
func sector(p api.Page) []byte {
	b := make([]byte, 256)
	b[0], b[1] = byte(p.Kind), byte(len(p.Body))
	binary.LittleEndian.PutUint16(b[2:], uint16(p.Id))
	binary.LittleEndian.PutUint32(b[4:], uint32(p.Tx))
	binary.LittleEndian.PutUint64(b[8:], uint64(p.Tx))
	copy(b[16:], p.Body)
	seal(b)
	binary.LittleEndian.PutUint32(b[252:], uint32(p.Tx))
	return b
}

// lay is page.Lay of a page that may be.
func lay(t *testing.T, p api.Page) string {
	t.Helper()
	b, e := page.Lay(p)
	if e != api.OK || len(b) != api.Sector {
		t.Fatalf("Lay of %s: %d bytes, error %d", name(p), len(b), e)
	}
	return b
}

// checkRead holds what Read tells against the page or the error that are wanted.
func checkRead(t *testing.T, what, b string, want api.Page, bad api.Errno) {
	t.Helper()
	if got, e := page.Read(b); got != want || e != bad {
		t.Errorf("%s: Read: %+v, %d, not %+v, %d", what, got, e, want, bad)
	}
}

// checkBad holds Read to tell an error of bytes, and no page.
func checkBad(t *testing.T, what string, b []byte, bad api.Errno) {
	t.Helper()
	checkRead(t, what, string(b), api.Page{}, bad)
}

// checkFront holds what Front tells against what is wanted.
func checkFront(t *testing.T, what, b string, kind, id, tx int) {
	t.Helper()
	if k, i, x := page.Front(b); k != kind || i != id || x != tx {
		t.Errorf("%s: Front: %d, %d, %d, not %d, %d, %d", what, k, i, x, kind, id, tx)
	}
}

// judge tells by P501, from the bytes alone, what Read is to say of a sector.
func judge(b []byte) api.Errno {
	tx, size := binary.LittleEndian.Uint64(b[8:]), int(b[1])
	switch {
	case b[0] < 1 || b[0] > 5, size > 232, binary.LittleEndian.Uint16(b[2:]) > 3999, tx > maxTx:
		return api.ErrForm
	case string(b[4:8]) != string(b[8:12]), string(b[252:]) != string(b[8:12]):
		return api.ErrForm
	case strings.Trim(string(b[16+size:248]), "\x00") != "":
		return api.ErrForm
	case binary.LittleEndian.Uint32(b[248:]) != crc32.Checksum(b[:248], crc32.MakeTable(crc32.Castagnoli)):
		return api.ErrSum
	}
	return api.OK
}

func TestP501Valid(t *testing.T) {
	for _, p := range pages() {
		if !page.Valid(p) {
			t.Errorf("a page may not be: %s", name(p))
		}
	}
	for _, p := range wrong() {
		if page.Valid(p) {
			t.Errorf("a page may be: %s", name(p))
		}
	}
}

func TestP501Lay(t *testing.T) {
	example := lay(t, api.Page{Kind: api.Leaf, Id: 3, Tx: 9, Body: "ab"})
	head := "\x03\x02\x03\x00\x09\x00\x00\x00\x09\x00\x00\x00\x00\x00\x00\x00ab"
	if example[:248] != head+strings.Repeat("\x00", 230) || example[252:] != "\x09\x00\x00\x00" {
		t.Errorf("the example: %q", example)
	}
	great := lay(t, api.Page{Kind: api.Over, Id: 0x0a0b, Tx: 0x0102030405, Body: every(232)})
	head = "\x05\xe8\x0b\x0a\x05\x04\x03\x02\x05\x04\x03\x02\x01\x00\x00\x00" + every(232)
	if great[:248] != head || great[252:] != "\x05\x04\x03\x02" {
		t.Errorf("a full page: %q", great)
	}
	for _, p := range pages() {
		if b := lay(t, p); b != string(sector(p)) {
			t.Errorf("Lay of %s: %q, not %q", name(p), b, sector(p))
		}
	}
}

func TestP501LayOfNoPage(t *testing.T) {
	for _, p := range wrong() {
		if b, e := page.Lay(p); b != "" || e != api.ErrArg {
			t.Errorf("Lay of %s: %q, %d", name(p), b, e)
		}
	}
}

func TestP501ReadsWhatLayLays(t *testing.T) {
	for _, p := range pages() {
		b := lay(t, p)
		checkRead(t, name(p), b, p, api.OK)
		checkRead(t, name(p)+", once more", b, p, api.OK)
		checkRead(t, name(p)+", laid otherwise", string(sector(p)), p, api.OK)
	}
}

func TestP501ReadOfOtherThanASector(t *testing.T) {
	p := api.Page{Kind: api.Leaf, Id: 3, Tx: 9, Body: every(200)}
	twice := lay(t, p) + lay(t, p)
	for n := range len(twice) + 1 {
		if n != api.Sector {
			checkBad(t, strconv.Itoa(n)+" bytes", []byte(twice[:n]), api.ErrShort)
		}
	}
	checkBad(t, "a byte less, ahead", []byte(twice[1:256]), api.ErrShort)
	checkBad(t, "a wrong kind, too", []byte("\x09"+twice[1:257]), api.ErrShort)
}

// Each of these has a sum that fits: what is wrong is told by the form alone. It is told ahead of a wrong sum, too.
func TestP501ReadOfAnotherForm(t *testing.T) {
	tx := func(b []byte, v int) {
		binary.LittleEndian.PutUint32(b[4:], uint32(v))
		binary.LittleEndian.PutUint64(b[8:], uint64(v))
		binary.LittleEndian.PutUint32(b[252:], uint32(v))
	}
	for what, f := range map[string]func(b []byte){
		"kind 0":                       func(b []byte) { b[0] = 0 },
		"kind 6":                       func(b []byte) { b[0] = 6 },
		"kind 255":                     func(b []byte) { b[0] = 255 },
		"a body of 233 bytes":          func(b []byte) { b[1] = 233 },
		"a body of 240 bytes":          func(b []byte) { b[1] = 240 },
		"a body of 241 bytes":          func(b []byte) { b[1] = 241 },
		"a body of 255 bytes":          func(b []byte) { b[1] = 255 },
		"a body shorter than it is":    func(b []byte) { b[1] = 1 },
		"a body of none that is there": func(b []byte) { b[1] = 0 },
		"id 4000":                      func(b []byte) { binary.LittleEndian.PutUint16(b[2:], 4000) },
		"id 65535":                     func(b []byte) { binary.LittleEndian.PutUint16(b[2:], 65535) },
		"a Tx too great":               func(b []byte) { tx(b, maxTx+1) },
		"a Tx far too great":           func(b []byte) { tx(b, 1<<62) },
		"a Tx below 0":                 func(b []byte) { tx(b, -1) },
		"another number in the head":   func(b []byte) { b[4]++ },
		"another number there, high":   func(b []byte) { b[7] ^= 128 },
		"another Tx":                   func(b []byte) { b[8]++ },
		"another Tx, the fourth byte":  func(b []byte) { b[11] ^= 1 },
		"another number at the end":    func(b []byte) { b[252]++ },
		"another number there, last":   func(b []byte) { b[255] ^= 128 },
		"another number at both ends":  func(b []byte) { b[4]++; b[252]++ },
		"a byte behind the body":       func(b []byte) { b[18] = 1 },
		"a byte at the body's end":     func(b []byte) { b[247] = 128 },
		"zero bytes alone":             func(b []byte) { clear(b) },
		"no bytes but 255":             func(b []byte) { copy(b, strings.Repeat("\xff", 256)) },
	} {
		b := sector(api.Page{Kind: api.Leaf, Id: 3, Tx: 9, Body: "ab"})
		f(b)
		seal(b)
		checkBad(t, what, b, api.ErrForm)
		b[248]++
		checkBad(t, what+", and a wrong sum", b, api.ErrForm)
	}
}

func TestP501ReadOfAWrongSum(t *testing.T) {
	for _, p := range pages() {
		b := sector(p)
		for i := 248; i < 252; i++ {
			b[i] ^= 16
			checkBad(t, name(p)+": byte "+strconv.Itoa(i), b, api.ErrSum)
			b[i] ^= 16
		}
	}
	for _, at := range []int{0, 2, 12, 16, 17} {
		b := sector(api.Page{Kind: api.Leaf, Id: 3, Tx: 9, Body: "ab"})
		b[at] ^= 1
		checkBad(t, "byte "+strconv.Itoa(at)+" is that of another page", b, api.ErrSum)
	}
}

func TestP501ReadOfOneChangedByte(t *testing.T) {
	for _, n := range []int{0, 3, 232} {
		b := sector(api.Page{Kind: api.Twig, Id: 0x0201, Tx: 0x0304050607, Body: every(n)})
		for i := range b {
			for by := 1; by < 256; by++ {
				b[i] ^= byte(by)
				bad := judge(b)
				if bad == api.OK {
					t.Fatalf("byte %d: the sum still fits", i)
				}
				checkBad(t, "byte "+strconv.Itoa(i)+" is another by "+strconv.Itoa(by), b, bad)
				b[i] ^= byte(by)
			}
		}
	}
}

// Two bytes of a sector become others, and in each second one the sum is made to fit.
func TestP501ReadOfMoreThanOneChangedByte(t *testing.T) {
	told := map[api.Errno]int{}
	x := uint32(1)
	next := func(n int) int {
		x = x*1664525 + 1013904223
		return int(x>>8) % n
	}
	l := pages()
	for i := range 60000 {
		b := sector(l[next(len(l))])
		for range 2 {
			b[next(256)&next(256)] = byte(next(256) & next(256))
		}
		if i%2 == 0 {
			seal(b)
		}
		bad := judge(b)
		told[bad]++
		p, e := page.Read(string(b))
		if e != bad || bad != api.OK && p != (api.Page{}) {
			t.Fatalf("Read of %q: %+v, %d, not %d", b, p, e, bad)
		}
		if bad == api.OK && lay(t, p) != string(b) {
			t.Fatalf("Read of %q: %+v", b, p)
		}
	}
	for _, e := range []api.Errno{api.OK, api.ErrForm, api.ErrSum} {
		if told[e] < 1000 {
			t.Errorf("error %d came but %d times", e, told[e])
		}
	}
}

func TestP501BodyIsNewMemory(t *testing.T) {
	b := lay(t, api.Page{Kind: api.Leaf, Id: 3, Tx: 9, Body: every(100)})
	p, _ := page.Read(b)
	from, to := uintptr(unsafe.Pointer(unsafe.StringData(b))), uintptr(unsafe.Pointer(unsafe.StringData(p.Body)))
	if to >= from && to < from+api.Sector {
		t.Error("the body is a piece of the sector that was handed in")
	}
}

func TestP502Front(t *testing.T) {
	for _, p := range pages() {
		b := lay(t, p)
		checkFront(t, name(p), b, p.Kind, p.Id, p.Tx)
		checkFront(t, name(p)+", the head alone", b[:api.Head], p.Kind, p.Id, p.Tx)
		checkFront(t, name(p)+", a byte more", b[:api.Head+1], p.Kind, p.Id, p.Tx)
		checkFront(t, name(p)+", and more behind it", b+b, p.Kind, p.Id, p.Tx)
		for n := range api.Head {
			checkFront(t, name(p)+", "+strconv.Itoa(n)+" bytes", b[:n], 0, 0, 0)
		}
	}
}

func TestP502FrontWhateverTheRestIs(t *testing.T) {
	rest := strings.Repeat("\xff", 240)
	checkFront(t, "no page", "\x00\x00\x00\x00\x00\x00\x00\x00\x00\x00\x00\x00\x00\x00\x00\x00"+rest, 0, 0, 0)
	checkFront(t, "a length and a number that are none", "\x02\xff\x05\x00\xff\xff\xff\xff\x09\x00\x00\x00\x00\x00\x00\x00"+rest, 2, 5, 9)
	checkFront(t, "a kind, an id that are none", "\xfe\x00\xff\xff\x01\x00\x00\x00\x01\x00\x00\x00\x00\x00\x00\x00", 254, 65535, 1)
	checkFront(t, "each byte", "\x01\x02\x03\x04\x05\x06\x07\x08\x09\x0a\x0b\x0c\x0d\x0e\x0f\x10", 1, 0x0403, 0x100f0e0d0c0b0a09)
	checkFront(t, "255 alone", strings.Repeat("\xff", 16), 255, 65535, -1)
	checkFront(t, "the least Tx", strings.Repeat("\x00", 15)+"\x80", 0, 0, math.MinInt)
}

// several tells pages of which most have another Tx than the others: in one of its lowest 4 bytes, in some, in all.
func several() []api.Page {
	var l []api.Page
	for i, tx := range []int{0, 1, 255, 256, 1 << 16, 1 << 24, 1<<32 - 1, 1<<32 + 2, 1<<39 + 3, maxTx - 1, 0x01010101, 0x0101010102} {
		l = append(l, api.Page{Kind: kinds()[i%5], Id: i * 333, Tx: tx, Body: every(i * 21)})
	}
	for _, tx := range []int{0, 1, 1 << 32, 0xfffffffe} {
		l = append(l, api.Page{Kind: api.Leaf, Id: 3, Tx: tx, Body: "same"})
	}
	return append(l, api.Page{Kind: api.Over, Id: 3999, Tx: maxTx, Body: every(232)})
}

func TestP503Torn(t *testing.T) {
	l := several()
	for _, p := range l {
		for _, q := range l {
			if uint32(p.Tx) != uint32(q.Tx) {
				checkTorn(t, p, q)
			}
		}
	}
}

// checkTorn holds each mixture of two pages to be the one, or the other, or none.
func checkTorn(t *testing.T, p, q api.Page) {
	t.Helper()
	a, b := lay(t, p), lay(t, q)
	for k := range api.Sector + 1 {
		s := a[:k] + b[k:]
		what := strconv.Itoa(k) + " bytes of " + name(p) + ", the others of " + name(q)
		switch s {
		case a:
			checkRead(t, what, s, p, api.OK)
		case b:
			checkRead(t, what, s, q, api.OK)
		default:
			got, e := page.Read(s)
			if got != (api.Page{}) || e != api.ErrForm && e != api.ErrSum {
				t.Fatalf("%s: Read: %+v, %d", what, got, e)
			}
		}
	}
}

// patch tells the 4 bytes that take a sum from what it is behind one text to what it is behind another one.
func patch(from, to string) string {
	x := ^sum.Of(to)
	for range 32 {
		if x>>31 == 1 {
			x = (x^0x82f63b78)<<1 | 1
		} else {
			x <<= 1
		}
	}
	return string(binary.LittleEndian.AppendUint32(nil, x^^sum.Of(from)))
}

// Two pages are made so that the sum fits the mixture of them, too: the number at both ends tells it then.
func TestP503TornWithASumThatFits(t *testing.T) {
	for k := api.Head + 4; k <= api.Head+api.Body; k++ {
		n := k - api.Head
		q := api.Page{Kind: api.Leaf, Id: 3, Tx: 9, Body: every(232)}
		p := api.Page{Kind: api.Leaf, Id: 3, Tx: 10, Body: strings.Repeat("p", n-4)}
		b := lay(t, q)
		ahead := "\x03\xe8\x03\x00\x0a\x00\x00\x00\x0a\x00\x00\x00\x00\x00\x00\x00" + p.Body
		p.Body += patch(ahead, b[:k]) + strings.Repeat("p", 232-n)
		a := lay(t, p)
		s := a[:k] + b[k:]
		if _, e := sum.Open(s[:252]); e != api.OK || a[:k-4] != ahead {
			t.Fatalf("%d bytes: the sum does not fit", k)
		}
		checkBad(t, strconv.Itoa(k)+" bytes, and the sum fits", []byte(s), api.ErrForm)
	}
}
