package big_test

import (
	"math"
	"slices"
	"strconv"
	"strings"
	"sync"
	"testing"

	"rootstock/api"
	"rootstock/big"
	"rootstock/disk"
	"rootstock/page"
	"rootstock/store"
)

// pile has pages by the ids that they are asked by.
type pile map[int]api.Page

// of tells a pile of pages, each in its place.
func of(l ...api.Page) pile {
	p := pile{}
	for _, s := range l {
		p[s.Id] = s
	}
	return p
}

func (p pile) get(id int) (api.Page, api.Errno) {
	s, ok := p[id]
	if !ok {
		return api.Page{}, api.ErrRange
	}
	return s, api.OK
}

// with tells the pile with another page in a place.
func (p pile) with(id int, s api.Page) pile {
	q := pile{}
	for k, s := range p {
		q[k] = s
	}
	q[id] = s
	return q
}

// checkRead holds Read to tell a value.
func checkRead(t *testing.T, what, ref string, get func(id int) (api.Page, api.Errno), want string) {
	t.Helper()
	if value, e := big.Read(ref, get); value != want || e != api.OK {
		t.Errorf("%s: Read: %s, error %d, not %s", what, brief(value), e, brief(want))
	}
}

// checkBroken holds Read to tell ErrBroken, and nothing beside.
func checkBroken(t *testing.T, what, ref string, get func(id int) (api.Page, api.Errno)) {
	t.Helper()
	if value, e := big.Read(ref, get); value != "" || e != api.ErrBroken {
		t.Errorf("%s: Read: %s, error %d", what, brief(value), e)
	}
}

// checkIds holds Ids to tell the pages that are wanted.
func checkIds(t *testing.T, ref string, want ...int) {
	t.Helper()
	if ids, e := big.Ids(ref); !slices.Equal(ids, want) || e != api.OK {
		t.Errorf("Ids of %q: %v, error %d, not %v", ref, ids, e, want)
	}
}

// lay is big.Lay of what may be.
func lay(t *testing.T, value string, first, tx int) []api.Page {
	t.Helper()
	l, e := big.Lay(value, first, tx)
	if e != api.OK {
		t.Fatalf("Lay of %d bytes from %d on, tx %d: error %d", len(value), first, tx, e)
	}
	return l
}

func TestP1102ReadBack(t *testing.T) {
	for n := range maxValue + 1 {
		for _, first := range []int{2, 3000} {
			value := text(n)
			checkRead(t, strconv.Itoa(n)+" bytes", ref(first, n), of(lay(t, value, first, n)...).get, value)
		}
	}
}

// The pages are asked for one behind the other, each once.
func TestP1102ReadAsksForThePages(t *testing.T) {
	for _, n := range lengths() {
		l := pages(text(n), 77, 5)
		var asked []int
		checkRead(t, "asked", ref(77, n), func(id int) (api.Page, api.Errno) {
			asked = append(asked, id)
			return of(l...).get(id)
		}, text(n))
		var want []int
		for _, p := range l {
			want = append(want, p.Id)
		}
		if !slices.Equal(asked, want) {
			t.Errorf("%d bytes: %v are asked for, not %v", n, asked, want)
		}
		checkIds(t, ref(77, n), want...)
	}
}

// A value that was laid and put into a file is read from it, also where others stand beside it.
func TestP1102ReadFromAFile(t *testing.T) {
	s, e := store.Open(disk.New(0), "f")
	checkInt(t, "Open", int(e), 0)
	ref := map[string]string{}
	first := 2
	for i, n := range lengths() {
		value := text(n)
		checkInt(t, "Put", int(s.Put(lay(t, value, first, 9+i)...)), 0)
		r, e := big.Ref(first, n)
		checkInt(t, "Ref", int(e), 0)
		ref[r] = value
		first += big.Need(n)
	}
	for r, value := range ref {
		checkRead(t, strconv.Itoa(len(value))+" bytes", r, s.Get, value)
	}
	checkInt(t, "Put of another one", int(s.Put(api.Page{Kind: api.Leaf, Id: 4, Tx: 50})), 0)
	last, _ := big.Ref(first, 1)
	checkBroken(t, "behind the end", last, s.Get)
	long, _ := big.Ref(first-1, maxValue)
	checkBroken(t, "over the end", long, s.Get)
	none, _ := big.Ref(4, 2)
	checkBroken(t, "a leaf", none, s.Get)
}

func TestP1102ReadOfASectorThatIsSpoilt(t *testing.T) {
	value := text(700)
	sectors := map[int]string{}
	for _, p := range lay(t, value, 30, 8) {
		b, e := page.Lay(p)
		checkInt(t, "page.Lay", int(e), 0)
		sectors[p.Id] = b
	}
	get := func(id int) (api.Page, api.Errno) { return page.Read(sectors[id]) }
	checkRead(t, "as it was laid", ref(30, 700), get, value)
	for id, b := range sectors {
		sectors[id] = b[:17] + string([]byte{^b[17]}) + b[18:]
		checkBroken(t, "a byte of "+strconv.Itoa(id), ref(30, 700), get)
		delete(sectors, id)
		checkBroken(t, strconv.Itoa(id)+" is not there", ref(30, 700), get)
		sectors[id] = b
	}
	checkRead(t, "as it was laid, once more", ref(30, 700), get, value)
}

func TestP1102ReadWhereGetTellsAnError(t *testing.T) {
	for _, n := range lengths() {
		p := of(pages(text(n), 40, 1)...)
		for at := range p {
			for _, bad := range []api.Errno{api.ErrArg, api.ErrForm, api.ErrOff, api.ErrRange, api.ErrBroken, api.ErrSum, -1} {
				// The page stands beside the error, and is none all the same.
				checkBroken(t, "error "+strconv.Itoa(int(bad)), ref(40, n), func(id int) (api.Page, api.Errno) {
					s, e := p.get(id)
					if id == at {
						e = bad
					}
					return s, e
				})
			}
		}
		checkBroken(t, "no page at all", ref(40, n), pile{}.get)
	}
}

func TestP1102ReadWhereGetPanics(t *testing.T) {
	for _, n := range lengths() {
		checkBroken(t, "no get", ref(40, n), nil)
		checkBroken(t, "a get that panics", ref(40, n), func(int) (api.Page, api.Errno) { panic("no page") })
		checkBroken(t, "a get that panics of nothing", ref(40, n), func(int) (api.Page, api.Errno) { panic(nil) })
	}
	p := of(pages(text(700), 40, 1)...)
	checkBroken(t, "a get that panics later", ref(40, 700), func(id int) (api.Page, api.Errno) {
		if id == 43 {
			var none pile
			none[1] = p[1]
		}
		return p.get(id)
	})
}

func TestP1102ReadOfOtherKinds(t *testing.T) {
	for _, n := range lengths() {
		p := of(pages(text(n), 40, 1)...)
		for id, s := range p {
			for _, kind := range []int{math.MinInt, -1, 0, api.Meta, api.Free, api.Leaf, api.Twig, 6, 5 + 256, math.MaxInt} {
				s.Kind = kind
				checkBroken(t, "kind "+strconv.Itoa(kind)+" of "+strconv.Itoa(id), ref(40, n), p.with(id, s).get)
			}
		}
	}
}

// Each body has each length: the one that it is to have is the only one that is taken.
func TestP1102ReadOfOtherLengths(t *testing.T) {
	for _, n := range []int{0, 1, 231, 232, 233, 464, 465, 1856, 1857, maxValue} {
		l := pages(text(n), 40, 1)
		p := of(l...)
		for i, s := range l {
			right := len(s.Body)
			for k := range 300 {
				if s.Body = text(k); k != right {
					what := strconv.Itoa(k) + " bytes in page " + strconv.Itoa(i) + " of " + strconv.Itoa(n)
					checkBroken(t, what, ref(40, n), p.with(s.Id, s).get)
				}
			}
		}
	}
	checkBroken(t, "very many bytes", ref(40, 5), of(over(40, 1, text(1<<20))).get)
}

// All of the bytes are there, but not as they would be cut.
func TestP1102ReadOfOtherCuts(t *testing.T) {
	value := text(465)
	for what, cuts := range map[string][2]int{
		"the first one too short":        {231, 463},
		"the first one too long":         {233, 464},
		"the second one too short":       {232, 463},
		"nothing in the last one":        {232, 465},
		"nothing in the first one":       {0, 232},
		"all in the first one":           {465, 465},
		"all in the last one":            {0, 0},
		"the short one ahead":            {1, 233},
		"the short one in the middle":    {232, 233},
		"as many bytes in each as fit 3": {155, 310},
	} {
		p := of(over(40, 1, value[:cuts[0]]), over(41, 1, value[cuts[0]:cuts[1]]), over(42, 1, value[cuts[1]:]))
		checkBroken(t, what, ref(40, 465), p.get)
	}
	checkRead(t, "as it is cut", ref(40, 465), of(over(40, 1, value[:232]), over(41, 1, value[232:464]), over(42, 1, value[464:])).get, value)
}

// Where the ref tells another length, there is a value only if it ends with a full page.
func TestP1102ReadOfOtherRefs(t *testing.T) {
	value := text(465)
	p := of(append(pages(value, 40, 1), over(43, 1, ""))...)
	for n := range maxValue + 1 {
		what := strconv.Itoa(n) + " bytes of 465"
		if n == 232 || n == 464 || n == 465 {
			checkRead(t, what, ref(40, n), p.get, value[:n])
		} else {
			checkBroken(t, what, ref(40, n), p.get)
		}
	}
	checkRead(t, "the rest", ref(42, 1), p.get, value[464:])
	checkRead(t, "nothing behind it", ref(43, 0), p.get, "")
}

// What the pages say beside their kind and their bytes is not asked.
func TestP1102ReadAsksNothingElse(t *testing.T) {
	value := text(500)
	l := pages(value, 40, 1)
	p := pile{}
	for i, s := range l {
		p[s.Id] = over(0, -i, s.Body)
	}
	checkRead(t, "other ids, other txs", ref(40, 500), p.get, value)
	checkRead(t, "more pages beside", ref(41, 268), of(l...).with(43, over(43, 1, "x")).get, value[232:])
}

// What is read is new each time, and no piece of the pages that get told.
func TestP1102ReadTellsANewValue(t *testing.T) {
	for _, n := range []int{1, bodyBytes, 500, maxValue} {
		p := of(pages(text(n), 40, 1)...)
		value, e := big.Read(ref(40, n), p.get)
		checkInt(t, "Read", int(e), 0)
		for _, s := range p {
			checkApart(t, value, s.Body)
		}
		again, _ := big.Read(ref(40, n), p.get)
		checkApart(t, again, value)
	}
}

func TestP1102SeveralReadAtOneTime(t *testing.T) {
	value := text(maxValue)
	p := of(pages(value, 40, 1)...)
	var wait sync.WaitGroup
	values := make([]string, 8)
	for i := range values {
		wait.Go(func() { values[i], _ = big.Read(ref(40, maxValue), p.get) })
	}
	wait.Wait()
	for i, s := range values {
		if s != value {
			t.Errorf("reader %d: %s", i, brief(s))
		}
	}
}

func TestP1102Ids(t *testing.T) {
	checkIds(t, ref(2, 0), 2)
	checkIds(t, ref(2, 1), 2)
	checkIds(t, ref(9, 232), 9)
	checkIds(t, ref(9, 233), 9, 10)
	checkIds(t, ref(lastPage, 232), lastPage)
	checkIds(t, ref(lastPage-8, maxValue), 3991, 3992, 3993, 3994, 3995, 3996, 3997, 3998, 3999)
	for n := range maxValue + 1 {
		var want []int
		for _, p := range pages(text(n), 300+n, 1) {
			want = append(want, p.Id)
		}
		checkIds(t, ref(300+n, n), want...)
	}
}

// A Ref may tell more bytes than there are pages for behind its first one: the value can't be read, then.
func TestP1102BeyondTheLastPage(t *testing.T) {
	checkIds(t, ref(lastPage, 233), lastPage, lastPage+1)
	s, e := store.Open(disk.New(0), "f")
	checkInt(t, "Open", int(e), 0)
	checkInt(t, "Put", int(s.Put(over(lastPage, 1, strings.Repeat("x", bodyBytes)))), 0)
	checkRead(t, "the last page", ref(lastPage, bodyBytes), s.Get, strings.Repeat("x", bodyBytes))
	checkBroken(t, "beyond it", ref(lastPage, bodyBytes+1), s.Get)
}

func TestP1102IdsAreNew(t *testing.T) {
	ids, _ := big.Ids(ref(9, 700))
	clear(ids[:cap(ids)])
	checkIds(t, ref(9, 700), 9, 10, 11, 12)
}
