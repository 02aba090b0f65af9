package free_test

import (
	"encoding/binary"
	"math"
	"slices"
	"strconv"
	"strings"
	"testing"

	"rootstock/api"
	"rootstock/free"
	"rootstock/page"
)

const maxTx = 1 << 40

// body tells a body as P703 tells it, byte for byte, also one that Lay never lays.
func body(next int, ids ...int) string {
	b := binary.LittleEndian.AppendUint16(nil, uint16(next))
	b = append(b, byte(len(ids)))
	for _, id := range ids {
		b = binary.LittleEndian.AppendUint16(b, uint16(id))
	}
	return string(b)
}

// sheet tells a page of ids.
func sheet(id, tx, next int, ids ...int) api.Page {
	return api.Page{Kind: api.Free, Id: id, Tx: tx, Body: body(next, ids...)}
}

// pile has pages by the ids that they are asked by.
type pile map[int]api.Page

// of tells a pile of pages, each in its place.
func of(l ...api.Page) pile {
	p := pile{}
	for _, s := range l {
		p[s.Id] = s
	}
	return p
}

func (p pile) get(id int) (api.Page, api.Errno) {
	s, ok := p[id]
	if !ok {
		return api.Page{}, api.ErrRange
	}
	return s, api.OK
}

// with tells the pile with another page in a place.
func (p pile) with(id int, s api.Page) pile {
	q := pile{id: s}
	for k, s := range p {
		if k != id {
			q[k] = s
		}
	}
	return q
}

// lay is free.Lay of what may be.
func lay(t *testing.T, ids, at []int, tx int) []api.Page {
	t.Helper()
	l, e := free.Lay(ids, at, tx)
	if e != api.OK {
		t.Fatalf("Lay of %d ids at %v, tx %d: error %d", len(ids), at, tx, e)
	}
	return l
}

// checkNoLay holds Lay to tell ErrArg, and no pages.
func checkNoLay(t *testing.T, what string, ids, at []int, tx int) {
	t.Helper()
	if l, e := free.Lay(ids, at, tx); len(l) > 0 || e != api.ErrArg {
		t.Errorf("%s: Lay: %d pages, error %d", what, len(l), e)
	}
}

// checkPages holds pages against those that are wanted.
func checkPages(t *testing.T, what string, got []api.Page, want ...api.Page) {
	t.Helper()
	if !slices.Equal(got, want) {
		t.Errorf("%s: %v, not %v", what, got, want)
	}
}

// checkRead holds what Read tells against the ids and the places that are wanted.
func checkRead(t *testing.T, what string, p pile, first int, ids, at []int) {
	t.Helper()
	gotIds, gotAt, e := free.Read(first, p.get)
	if e != api.OK {
		t.Errorf("%s: Read: error %d", what, e)
		return
	}
	checkIds(t, what+": the ids", gotIds, ids...)
	checkIds(t, what+": the places", gotAt, at...)
}

// checkBroken holds Read to tell ErrBroken, and nothing beside.
func checkBroken(t *testing.T, what string, first int, get func(id int) (api.Page, api.Errno)) {
	t.Helper()
	ids, at, e := free.Read(first, get)
	if len(ids) > 0 || len(at) > 0 || e != api.ErrBroken {
		t.Errorf("%s: Read: %d ids, %d places, error %d", what, len(ids), len(at), e)
	}
}

// judge tells by P703, from the bytes alone, what Read is to tell; ok false of what is broken.
func judge(p pile, first int) (ids, at []int, ok bool) {
	seen := map[int]bool{}
	for id := first; id != 0; {
		s, there := p[id]
		if !there || seen[id] || s.Kind != api.Free || s.Id != id || s.Tx < 0 || s.Tx > maxTx || s.Tx != p[first].Tx {
			return nil, nil, false
		}
		seen[id] = true
		if len(s.Body) < 3 {
			return nil, nil, false
		}
		next, n := int(binary.LittleEndian.Uint16([]byte(s.Body))), int(s.Body[2])
		if len(s.Body) != 3+2*n || n < 1 || n > 113 || next != 0 && n < 113 {
			return nil, nil, false
		}
		for i := range n {
			ids = append(ids, int(binary.LittleEndian.Uint16([]byte(s.Body[3+2*i:]))))
		}
		at = append(at, id)
		id = next
	}
	return ids, at, true
}

// checkJudge holds Read against judge.
func checkJudge(t *testing.T, what string, p pile, first int) {
	t.Helper()
	if ids, at, ok := judge(p, first); ok {
		checkRead(t, what, p, first, ids, at)
	} else {
		checkBroken(t, what, first, p.get)
	}
}

func TestP703Need(t *testing.T) {
	for n, want := range map[int]int{
		math.MinInt: 0, -113: 0, -1: 0, 0: 0, 1: 1, 2: 1, 112: 1, 113: 1, 114: 2, 225: 2, 226: 2, 227: 3,
		3998: 36, 1 << 31: 19004281,
		math.MaxInt: math.MaxInt/113 + 1, math.MaxInt - 112: math.MaxInt / 113,
	} {
		checkInt(t, "Need of "+strconv.Itoa(n), free.Need(n), want)
	}
	for n := 1; n < 1000; n++ {
		checkInt(t, "Need of "+strconv.Itoa(n), free.Need(n), (n+112)/113)
	}
}

func TestP703Lay(t *testing.T) {
	checkPages(t, "none", lay(t, nil, nil, 1))
	checkPages(t, "none, of a tx that may not be", lay(t, []int{}, []int{}, -1))
	checkPages(t, "one", lay(t, []int{0x0304}, []int{9}, 5),
		api.Page{Kind: 2, Id: 9, Tx: 5, Body: "\x00\x00\x01\x04\x03"})
	checkPages(t, "some, as they come", lay(t, []int{7, 3, 0, 7, 65535}, []int{3999}, maxTx),
		api.Page{Kind: 2, Id: 3999, Tx: maxTx, Body: "\x00\x00\x05\x07\x00\x03\x00\x00\x00\x07\x00\xff\xff"})
	ids := span(100, 1000)
	checkPages(t, "a full page", lay(t, ids[:113], []int{2}, 0), sheet(2, 0, 0, ids[:113]...))
	l := lay(t, ids[:114], []int{0x0708, 3}, 6)
	checkPages(t, "one more", l, sheet(0x0708, 6, 3, ids[:113]...), sheet(3, 6, 0, ids[113]))
	if l[0].Body[:5] != "\x03\x00\x71\x64\x00" || len(l[0].Body) != 229 || l[1].Body != "\x00\x00\x01\xd5\x00" {
		t.Errorf("one more: %q, %q", l[0].Body, l[1].Body)
	}
	checkPages(t, "two full pages", lay(t, ids[:226], []int{8, 7}, 6), sheet(8, 6, 7, ids[:113]...), sheet(7, 6, 0, ids[113:226]...))
	checkPages(t, "three", lay(t, ids[:227], []int{8, 2000, 7}, 6),
		sheet(8, 6, 2000, ids[:113]...), sheet(2000, 6, 7, ids[113:226]...), sheet(7, 6, 0, ids[226]))
	for _, p := range lay(t, span(2, 3900), span(3900, 3935), 9) {
		if !page.Valid(p) {
			t.Errorf("page %d may not be", p.Id)
		}
	}
}

func TestP703LayAtTooFewOrTooManyPlaces(t *testing.T) {
	for n := range 350 {
		need := (n + 112) / 113
		for k := range 6 {
			if k != need {
				checkNoLay(t, strconv.Itoa(n)+" ids at "+strconv.Itoa(k), span(2, 2+n), span(1000, 1000+k), 1)
			}
		}
	}
}

func TestP703LayOfWhatMayNotBe(t *testing.T) {
	ids := span(2, 302)
	for _, id := range []int{math.MinInt, -1, 65536, 65538, 1 << 32, math.MaxInt} {
		what := "id " + strconv.Itoa(id)
		checkNoLay(t, what, []int{id}, []int{9}, 1)
		checkNoLay(t, what+", in the middle", []int{2, id, 3}, []int{9}, 1)
		checkNoLay(t, what+", in the last page", append(slices.Clone(ids[:200]), id), []int{9, 10}, 1)
	}
	for _, id := range []int{math.MinInt, -1, 4000, 4001, 65535, 65536, 65538, math.MaxInt} {
		what := "page " + strconv.Itoa(id)
		checkNoLay(t, what, ids[:1], []int{id}, 1)
		checkNoLay(t, what+", the first one", ids[:200], []int{id, 9}, 1)
		checkNoLay(t, what+", the last one", ids[:200], []int{9, id}, 1)
		checkNoLay(t, what+", in the middle", ids, []int{9, id, 10}, 1)
	}
	for _, tx := range []int{math.MinInt, -1, maxTx + 1, math.MaxInt} {
		checkNoLay(t, "tx "+strconv.Itoa(tx), ids, []int{9, 10, 11}, tx)
	}
}

func TestP703LayWritesNothing(t *testing.T) {
	ids, at := span(2, 302), []int{400, 402, 401}
	l := lay(t, ids, at, 1)
	checkIds(t, "the ids", ids, span(2, 302)...)
	checkIds(t, "the places", at, 400, 402, 401)
	ids[0], at[1] = 9, 9
	checkPages(t, "the first page", l[:1], sheet(400, 1, 402, span(2, 115)...))
	again := lay(t, span(2, 302), []int{400, 402, 401}, 1)
	l[0] = api.Page{}
	checkPages(t, "laid once more", again[:1], sheet(400, 1, 402, span(2, 115)...))
}

func TestP703ReadBack(t *testing.T) {
	for _, n := range []int{1, 2, 112, 113, 114, 225, 226, 227, 339, 340, 1000, 3900} {
		for _, tx := range []int{0, 1, 77, maxTx} {
			ids, at := span(2, 2+n), span(3900, 3900+free.Need(n))
			what := strconv.Itoa(n) + " ids, tx " + strconv.Itoa(tx)
			checkRead(t, what, of(lay(t, ids, at, tx)...), 3900, ids, at)
			slices.Reverse(ids)
			slices.Reverse(at)
			checkRead(t, what+", falling", of(lay(t, ids, at, tx)...), at[0], ids, at)
		}
	}
	odd := []int{65535, 0, 0, 9, 9, 1}
	checkRead(t, "ids that no file has", of(lay(t, odd, []int{1}, 3)...), 1, odd, []int{1})
}

// Ids that were laid, put into sectors, and read from them are the same.
func TestP703ReadFromSectors(t *testing.T) {
	ids, at := span(2, 500), []int{700, 900, 600, 1000, 3999}
	sectors := map[int]string{}
	for _, p := range lay(t, ids, at, 12) {
		b, e := page.Lay(p)
		if e != api.OK {
			t.Fatalf("page.Lay of %d: error %d", p.Id, e)
		}
		sectors[p.Id] = b
	}
	get := func(id int) (api.Page, api.Errno) { return page.Read(sectors[id]) }
	gotIds, gotAt, e := free.Read(700, get)
	checkIds(t, "the ids", gotIds, ids...)
	checkIds(t, "the places", gotAt, at...)
	checkInt(t, "the error", int(e), 0)
	sectors[600] = sectors[600][:100] + "\xff" + sectors[600][101:]
	checkBroken(t, "a sector that is spoilt", 700, get)
	delete(sectors, 600)
	checkBroken(t, "a sector that is not there", 700, get)
}

func TestP703ReadOfNone(t *testing.T) {
	ids, at, e := free.Read(0, func(int) (api.Page, api.Errno) {
		t.Error("a page is asked for")
		return api.Page{}, api.ErrArg
	})
	if len(ids) > 0 || len(at) > 0 || e != api.OK {
		t.Errorf("Read of none: %v, %v, %d", ids, at, e)
	}
	if ids, at, e := free.Read(0, nil); len(ids) > 0 || len(at) > 0 || e != api.OK {
		t.Errorf("Read of none, by nothing: %v, %v, %d", ids, at, e)
	}
}

func TestP703ReadWhereGetTellsAnError(t *testing.T) {
	p := of(lay(t, span(2, 302), []int{400, 402, 401}, 1)...)
	for _, bad := range []api.Errno{api.ErrArg, api.ErrOff, api.ErrRange, api.ErrBroken, api.ErrSum, -1} {
		for _, at := range []int{400, 402, 401} {
			// The page stands beside the error, and is none all the same.
			checkBroken(t, "error "+strconv.Itoa(int(bad)), 400, func(id int) (api.Page, api.Errno) {
				s, e := p.get(id)
				if id == at {
					e = bad
				}
				return s, e
			})
		}
	}
	for _, first := range []int{math.MinInt, -1, 1, 2, 399, 3999, 4000, 65535, math.MaxInt} {
		checkBroken(t, "page "+strconv.Itoa(first)+", which is not there", first, p.get)
	}
}

func TestP703ReadWhereGetPanics(t *testing.T) {
	checkBroken(t, "no get", 2, nil)
	checkBroken(t, "a get that panics", 2, func(int) (api.Page, api.Errno) { panic("no page") })
	checkBroken(t, "a get that panics of nothing", 2, func(int) (api.Page, api.Errno) { panic(nil) })
	p := of(lay(t, span(2, 302), []int{400, 402, 401}, 1)...)
	checkBroken(t, "a get that panics later", 400, func(id int) (api.Page, api.Errno) {
		if id == 401 {
			var none pile
			none[1] = p[1]
		}
		return p.get(id)
	})
}

func TestP703ReadOfOtherPages(t *testing.T) {
	ids, at := span(2, 302), []int{400, 402, 401}
	p := of(lay(t, ids, at, 7)...)
	checkRead(t, "as it was laid", p, 400, ids, at)
	for _, id := range at {
		for _, kind := range []int{math.MinInt, -1, 0, api.Meta, api.Leaf, api.Twig, api.Over, 6, 258, math.MaxInt} {
			s := p[id]
			s.Kind = kind
			checkBroken(t, "kind "+strconv.Itoa(kind), 400, p.with(id, s).get)
		}
		for _, other := range []int{math.MinInt, -1, 0, 1, 399, 400, 401, 402, 403, 3999, 4000, math.MaxInt} {
			if other != id {
				s := p[id]
				s.Id = other
				checkBroken(t, "page "+strconv.Itoa(other)+" in place of "+strconv.Itoa(id), 400, p.with(id, s).get)
			}
		}
		for _, tx := range []int{math.MinInt, -1, 0, 6, 8, maxTx, maxTx + 1, math.MaxInt} {
			s := p[id]
			s.Tx = tx
			checkBroken(t, "tx "+strconv.Itoa(tx)+" in one page", 400, p.with(id, s).get)
		}
	}
	for _, tx := range []int{math.MinInt, -1, maxTx + 1, math.MaxInt} {
		checkBroken(t, "tx "+strconv.Itoa(tx), 5, of(sheet(5, tx, 0, 9)).get)
	}
	// A page that no file has is none, also if somebody tells it.
	for _, id := range []int{math.MinInt, -1, 4000, 65535, math.MaxInt} {
		checkBroken(t, "page "+strconv.Itoa(id), id, of(sheet(id, 7, 0, 9)).get)
	}
	checkBroken(t, "a next one that no file has", 5, of(sheet(5, 7, 4000, span(2, 115)...), sheet(4000, 7, 0, 9)).get)
}

func TestP703ReadOfOtherBodies(t *testing.T) {
	full := span(2, 115)
	last := sheet(6, 7, 0, 9)
	checkRead(t, "a full one, and one", of(sheet(5, 7, 6, full...), last), 5, append(slices.Clone(full), 9), []int{5, 6})
	for what, p := range map[string]pile{
		"no body":                      of(api.Page{Kind: api.Free, Id: 5, Tx: 7}),
		"a byte":                       of(api.Page{Kind: api.Free, Id: 5, Tx: 7, Body: "\x00"}),
		"the next one alone":           of(api.Page{Kind: api.Free, Id: 5, Tx: 7, Body: "\x00\x00"}),
		"fewer ids than it says":       of(api.Page{Kind: api.Free, Id: 5, Tx: 7, Body: "\x00\x00\x02\x09\x00"}),
		"half an id":                   of(api.Page{Kind: api.Free, Id: 5, Tx: 7, Body: "\x00\x00\x01\x09"}),
		"more than it says":            of(api.Page{Kind: api.Free, Id: 5, Tx: 7, Body: "\x00\x00\x01\x09\x00\x00"}),
		"zero bytes up to the end":     of(api.Page{Kind: api.Free, Id: 5, Tx: 7, Body: body(0, 9) + strings.Repeat("\x00", 227)}),
		"no ids":                       of(sheet(5, 7, 0)),
		"no ids, and a next one":       of(sheet(5, 7, 6), last),
		"no ids in the last one":       of(sheet(5, 7, 6, full...), sheet(6, 7, 0)),
		"one too few ahead of others":  of(sheet(5, 7, 6, full[:112]...), last),
		"so few that one page does":    of(sheet(5, 7, 6, 9), last),
		"one too many":                 of(sheet(5, 7, 0, span(2, 116)...)),
		"one too many ahead of others": of(sheet(5, 7, 6, span(2, 116)...), last),
		"more than a page has":         of(sheet(5, 7, 0, span(2, 257)...)),
		"two pages in another measure": of(sheet(5, 7, 6, span(2, 116)...), sheet(6, 7, 0, span(2, 114)...)),
		"the full one behind":          of(sheet(5, 7, 6, 9), sheet(6, 7, 0, full...)),
	} {
		checkBroken(t, what, 5, p.get)
	}
}

func TestP703ReadWhereAPageComesTwice(t *testing.T) {
	full := span(2, 115)
	checkBroken(t, "at once", 5, of(sheet(5, 7, 5, full...)).get)
	checkBroken(t, "back to the first one", 5, of(sheet(5, 7, 6, full...), sheet(6, 7, 5, full...)).get)
	checkBroken(t, "back to another one", 5, of(sheet(5, 7, 6, full...), sheet(6, 7, 7, full...), sheet(7, 7, 6, full...)).get)
	var l []api.Page
	for id := 2; id < 3999; id++ {
		l = append(l, sheet(id, 7, id+1, full...))
	}
	checkBroken(t, "all of them", 2, of(append(l, sheet(3999, 7, 2, full...))...).get)
	ids, at, e := free.Read(2, of(append(l, sheet(3999, 7, 0, full...))...).get)
	if len(ids) != 3998*113 || len(at) != 3998 || e != api.OK {
		t.Errorf("as many pages as there are: %d ids, %d places, error %d", len(ids), len(at), e)
	}
	// Where each page is told once more as another one it has to end, too.
	checkBroken(t, "whatever is asked", 5, func(id int) (api.Page, api.Errno) {
		return sheet(id, 7, id%65535+1, full...), api.OK
	})
	asked := 0
	checkBroken(t, "another one each time", 5, func(id int) (api.Page, api.Errno) {
		asked++
		return sheet(id, 7, []int{5, 6}[asked%2], full...), api.OK
	})
}

// Each byte of the bodies is changed to each other one.
func TestP703ReadOfEachChangedByte(t *testing.T) {
	p := of(lay(t, span(200, 200+113+4), []int{5, 6}, 7)...).with(7, sheet(7, 7, 0, 9, 8))
	for _, id := range []int{5, 6} {
		s := p[id]
		for i := range len(s.Body) {
			for c := range 256 {
				b := []byte(s.Body)
				b[i] = byte(c)
				what := "page " + strconv.Itoa(id) + ", byte " + strconv.Itoa(i) + " is " + strconv.Itoa(c)
				checkJudge(t, what, p.with(id, api.Page{Kind: s.Kind, Id: id, Tx: s.Tx, Body: string(b)}), 5)
			}
			checkJudge(t, "cut", p.with(id, api.Page{Kind: s.Kind, Id: id, Tx: s.Tx, Body: s.Body[:i]}), 5)
		}
		for n := 1; n < 8; n++ {
			checkJudge(t, "longer", p.with(id, api.Page{Kind: s.Kind, Id: id, Tx: s.Tx, Body: s.Body + strings.Repeat("\x00", n)}), 5)
		}
	}
}

// The two lists that are told share nothing with one another, nor with those that are told later.
func TestP703ReadTellsNewLists(t *testing.T) {
	ids, at := span(2, 302), []int{400, 402, 401}
	p := of(lay(t, ids, at, 7)...)
	gotIds, gotAt, _ := free.Read(400, p.get)
	clear(gotIds[:cap(gotIds)])
	checkIds(t, "the places", gotAt, at...)
	clear(gotAt[:cap(gotAt)])
	checkRead(t, "read once more", p, 400, ids, at)
}

// What a list has can be laid, read, and loaded again.
func TestP703ListToPagesAndBack(t *testing.T) {
	l := load(t, 1000, span(100, 400)...)
	l.Give(3, span(500, 600)...)
	first, e := l.Take(free.Need(len(l.All())))
	if e != api.OK {
		t.Fatalf("Take: error %d", e)
	}
	all := l.All()
	p := of(lay(t, all, span(first, first+4), 8)...)
	ids, at, e := free.Read(first, p.get)
	checkInt(t, "the error", int(e), 0)
	checkIds(t, "the places", at, span(100, 104)...)
	checkIds(t, "loaded", load(t, 1000, ids...).Free(), all...)
}
