package big_test

import (
	"math"
	"slices"
	"strconv"
	"strings"
	"testing"
	"unsafe"

	"rootstock/api"
	"rootstock/big"
	"rootstock/page"
)

const (
	bodyBytes = 232 // of a page's body
	maxValue  = 2000
	lastPage  = 3999
	maxTx     = 1 << 40
)

// text tells a text of n bytes, each another than the ones beside it, and no two of its pieces of a body alike.
func text(n int) string {
	b := make([]byte, n)
	for i := range b {
		b[i] = byte(255 - i%255)
	}
	return string(b)
}

// brief tells a text for a message.
func brief(s string) string {
	return strconv.Itoa(len(s)) + " bytes: " + strconv.Quote(s[:min(len(s), 20)])
}

// lengths tells how long values may be, around the edges of each page.
func lengths() []int {
	l := []int{0, 1, 2, 100, maxValue - 1, maxValue}
	for n := bodyBytes; n < maxValue; n += bodyBytes {
		l = append(l, n-1, n, n+1)
	}
	return l
}

// over tells a page of a value.
func over(id, tx int, body string) api.Page {
	return api.Page{Kind: 5, Id: id, Tx: tx, Body: body}
}

// pages tells the pages of a value as P1101 tells them, byte for byte, also those that Lay never lays.
func pages(value string, first, tx int) []api.Page {
	var l []api.Page
	for len(value) > bodyBytes {
		l = append(l, over(first+len(l), tx, value[:bodyBytes]))
		value = value[bodyBytes:]
	}
	return append(l, over(first+len(l), tx, value))
}

// ref tells the text of a Ref as P1101 tells it, also one that Ref never tells.
func ref(first, n int) string {
	return string([]byte{byte(first), byte(first >> 8), byte(n), byte(n >> 8)})
}

// checkInt holds one number against another.
func checkInt(t *testing.T, what string, got, want int) {
	t.Helper()
	if got != want {
		t.Errorf("%s: %d, not %d", what, got, want)
	}
}

// checkLay holds Lay to lay just the pages that are wanted.
func checkLay(t *testing.T, what, value string, first, tx int, want ...api.Page) {
	t.Helper()
	l, e := big.Lay(value, first, tx)
	if e != api.OK || !slices.Equal(l, want) {
		t.Errorf("%s: Lay: %d pages, error %d, not the %d", what, len(l), e, len(want))
	}
	for _, p := range l {
		if !page.Valid(p) {
			t.Errorf("%s: page %d may not be", what, p.Id)
		}
	}
}

// checkNoLay holds Lay to tell ErrArg, and no pages.
func checkNoLay(t *testing.T, what, value string, first, tx int) {
	t.Helper()
	if l, e := big.Lay(value, first, tx); len(l) > 0 || e != api.ErrArg {
		t.Errorf("%s: Lay: %d pages, error %d", what, len(l), e)
	}
}

// checkRef holds Ref to tell the text that is wanted, and Unref to read it.
func checkRef(t *testing.T, first, n int, want string) {
	t.Helper()
	what := strconv.Itoa(first) + ", " + strconv.Itoa(n)
	if s, e := big.Ref(first, n); s != want || e != api.OK {
		t.Errorf("Ref of %s: %q, error %d, not %q", what, s, e, want)
	}
	if gotFirst, gotN, e := big.Unref(want); gotFirst != first || gotN != n || e != api.OK {
		t.Errorf("Unref of the Ref of %s: %d, %d, error %d", what, gotFirst, gotN, e)
	}
}

// checkNoRef holds Ref to tell ErrArg, and no text.
func checkNoRef(t *testing.T, first, n int) {
	t.Helper()
	if s, e := big.Ref(first, n); s != "" || e != api.ErrArg {
		t.Errorf("Ref of %d, %d: %q, error %d", first, n, s, e)
	}
}

// checkNoUnref holds all that take a Ref's text to tell ErrForm, and nothing beside; no page is asked for.
func checkNoUnref(t *testing.T, what, s string) {
	t.Helper()
	if first, n, e := big.Unref(s); first != 0 || n != 0 || e != api.ErrForm {
		t.Errorf("%s: Unref: %d, %d, error %d", what, first, n, e)
	}
	if ids, e := big.Ids(s); len(ids) > 0 || e != api.ErrForm {
		t.Errorf("%s: Ids: %v, error %d", what, ids, e)
	}
	value, e := big.Read(s, func(id int) (api.Page, api.Errno) {
		t.Errorf("%s: Read asks for page %d", what, id)
		return over(id, 1, ""), api.OK
	})
	if value != "" || e != api.ErrForm {
		t.Errorf("%s: Read: %s, error %d", what, brief(value), e)
	}
	if value, e := big.Read(s, nil); value != "" || e != api.ErrForm {
		t.Errorf("%s: Read by nothing: %s, error %d", what, brief(value), e)
	}
}

func TestP1101Need(t *testing.T) {
	for n, want := range map[int]int{
		math.MinInt: 0, math.MinInt + 1: 0, -233: 0, -232: 0, -231: 0, -1: 0, 0: 1, 1: 1, 2: 1, 231: 1, 232: 1, 233: 2, 463: 2, 464: 2, 465: 3,
		1856: 8, 1857: 9, 1999: 9, 2000: 9, 2001: 9, 2088: 9, 2089: 10, 1 << 31: 9256396,
		math.MaxInt: math.MaxInt/232 + 1, math.MaxInt - 231: math.MaxInt / 232,
	} {
		checkInt(t, "Need of "+strconv.Itoa(n), big.Need(n), want)
	}
	for n := 1; n < 3000; n++ {
		checkInt(t, "Need of "+strconv.Itoa(n), big.Need(n), (n+231)/232)
	}
}

func TestP1101Lay(t *testing.T) {
	checkLay(t, "nothing", "", 9, 5, api.Page{Kind: api.Over, Id: 9, Tx: 5})
	checkLay(t, "a few bytes", "a\x00b", 2, 0, api.Page{Kind: api.Over, Id: 2, Tx: 0, Body: "a\x00b"})
	full, rest := strings.Repeat("x", bodyBytes), strings.Repeat("y", bodyBytes)
	checkLay(t, "a full page", full, 7, 6, over(7, 6, full))
	checkLay(t, "a byte more", full+"y", 7, 6, over(7, 6, full), over(8, 6, "y"))
	checkLay(t, "two full pages", full+rest, 7, 6, over(7, 6, full), over(8, 6, rest))
	checkLay(t, "a byte more than two", full+rest+"z", 7, 6, over(7, 6, full), over(8, 6, rest), over(9, 6, "z"))
	for n := range maxValue + 1 {
		checkLay(t, strconv.Itoa(n)+" bytes", text(n), 300+n, n, pages(text(n), 300+n, n)...)
	}
	for _, tx := range []int{0, 1, 1 << 32, maxTx - 1, maxTx} {
		checkLay(t, "tx "+strconv.Itoa(tx), text(500), 40, tx, pages(text(500), 40, tx)...)
	}
}

// The last page of the value may be the last one that a file has, but none behind it.
func TestP1101LayAtBothEnds(t *testing.T) {
	for _, n := range lengths() {
		need := max(n+bodyBytes-1, bodyBytes) / bodyBytes
		what := strconv.Itoa(n) + " bytes"
		for _, first := range []int{2, 3, lastPage - need, lastPage + 1 - need} {
			checkLay(t, what+" from "+strconv.Itoa(first), text(n), first, 3, pages(text(n), first, 3)...)
		}
		for first := lastPage + 2 - need; first < lastPage+20; first++ {
			checkNoLay(t, what+" from "+strconv.Itoa(first), text(n), first, 3)
		}
	}
}

func TestP1101LayOfWhatMayNotBe(t *testing.T) {
	for _, n := range lengths() {
		what := strconv.Itoa(n) + " bytes"
		for _, first := range []int{math.MinInt, -4000, -2, -1, 0, 1, 4000, 4001, 65535, 65536, 65538, 1 << 32, math.MaxInt - 1, math.MaxInt} {
			checkNoLay(t, what+", page "+strconv.Itoa(first), text(n), first, 1)
		}
		for _, tx := range []int{math.MinInt, -1, maxTx + 1, math.MaxInt} {
			checkNoLay(t, what+", tx "+strconv.Itoa(tx), text(n), 9, tx)
		}
	}
	for _, n := range []int{2001, 2002, 2088, 2089, 65535, 65536, 65537, 1 << 20} {
		checkNoLay(t, strconv.Itoa(n)+" bytes", text(n), 9, 1)
	}
}

// What is laid is new each time, and no piece of the value that was handed in.
func TestP1101LayTellsNewPages(t *testing.T) {
	for _, n := range []int{1, bodyBytes, 500, maxValue} {
		value := text(n)
		l, _ := big.Lay(value, 9, 1)
		for _, p := range l {
			checkApart(t, p.Body, value)
		}
		clear(l[:cap(l)])
		checkLay(t, "laid once more", value, 9, 1, pages(text(n), 9, 1)...)
	}
}

// checkApart holds a text to be no piece of another one.
func checkApart(t *testing.T, s, whole string) {
	t.Helper()
	from := uintptr(unsafe.Pointer(unsafe.StringData(whole)))
	if at := uintptr(unsafe.Pointer(unsafe.StringData(s))); at >= from && at < from+uintptr(len(whole)) {
		t.Errorf("%d bytes are a piece of what was handed in", len(s))
	}
}

func TestP1101Ref(t *testing.T) {
	checkRef(t, 2, 0, "\x02\x00\x00\x00")
	checkRef(t, 2, maxValue, "\x02\x00\xd0\x07")
	checkRef(t, lastPage, 0, "\x9f\x0f\x00\x00")
	checkRef(t, lastPage, maxValue, "\x9f\x0f\xd0\x07")
	checkRef(t, 0x0304, 0x0506, "\x04\x03\x06\x05")
	for first := 2; first <= lastPage; first++ {
		checkRef(t, first, first%(maxValue+1), ref(first, first%(maxValue+1)))
	}
	for n := range maxValue + 1 {
		checkRef(t, lastPage-n, n, ref(lastPage-n, n))
	}
}

func TestP1101RefOfWhatMayNotBe(t *testing.T) {
	firsts := []int{math.MinInt, -65534, -1, 0, 1, 4000, 4001, 65535, 65536, 65538, 1<<32 + 2, math.MaxInt}
	many := []int{math.MinInt, -65536, -1, 2001, 2002, 65535, 65536, 65537, 1 << 32, math.MaxInt}
	for _, first := range firsts {
		for _, n := range append([]int{0, 1, maxValue}, many...) {
			checkNoRef(t, first, n)
		}
	}
	for _, n := range many {
		for _, first := range []int{2, 9, lastPage} {
			checkNoRef(t, first, n)
		}
	}
}

func TestP1101UnrefOfOtherTexts(t *testing.T) {
	good := ref(9, 500)
	for n := range 4 {
		checkNoUnref(t, strconv.Itoa(n)+" bytes", good[:n])
	}
	for n := 1; n < 10; n++ {
		checkNoUnref(t, strconv.Itoa(n)+" bytes more", good+strings.Repeat("\x00", n))
		checkNoUnref(t, strconv.Itoa(n)+" bytes ahead", strings.Repeat("\x00", n)+good)
	}
	checkNoUnref(t, "twice", good+good)
	checkNoUnref(t, "a long text", text(70000))
	for _, first := range []int{0, 1, 4000, 4001, 32767, 32768, 65535} {
		for _, n := range []int{0, 500, maxValue, maxValue + 1} {
			checkNoUnref(t, "page "+strconv.Itoa(first), ref(first, n))
		}
	}
	for _, n := range []int{2001, 2002, 32767, 32768, 65535} {
		checkNoUnref(t, strconv.Itoa(n)+" bytes of a value", ref(9, n))
	}
}

// Each first page, and each length, that two bytes can tell.
func TestP1101UnrefOfEachNumber(t *testing.T) {
	for v := range 1 << 16 {
		first, n, e := big.Unref(ref(v, 7))
		if ok := v >= 2 && v <= lastPage; ok && (first != v || n != 7 || e != api.OK) || !ok && (first != 0 || n != 0 || e != api.ErrForm) {
			t.Errorf("page %d: %d, %d, error %d", v, first, n, e)
		}
		first, n, e = big.Unref(ref(7, v))
		if ok := v <= maxValue; ok && (first != 7 || n != v || e != api.OK) || !ok && (first != 0 || n != 0 || e != api.ErrForm) {
			t.Errorf("%d bytes: %d, %d, error %d", v, first, n, e)
		}
	}
}
