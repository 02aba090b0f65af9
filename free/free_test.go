package free_test

import (
	"math"
	"slices"
	"strconv"
	"sync"
	"testing"

	"rootstock/api"
	"rootstock/free"
)

// checkInt holds one number against another.
func checkInt(t *testing.T, what string, got, want int) {
	t.Helper()
	if got != want {
		t.Errorf("%s: %d, not %d", what, got, want)
	}
}

// checkIds holds ids against those that are wanted; nil and empty are one.
func checkIds(t *testing.T, what string, got []int, want ...int) {
	t.Helper()
	if !slices.Equal(got, want) {
		t.Errorf("%s: %v, not %v", what, got, want)
	}
}

// checkTake holds what Take tells against the id or the error that are wanted.
func checkTake(t *testing.T, l *free.List, n, id int, bad api.Errno) {
	t.Helper()
	if got, e := l.Take(n); got != id || e != bad {
		t.Errorf("Take of %d: %d, %d, not %d, %d", n, got, e, id, bad)
	}
}

// checkList holds a list against how many pages it is to have, and which of them free.
func checkList(t *testing.T, what string, l *free.List, pages int, ids ...int) {
	t.Helper()
	checkInt(t, what+": Pages", l.Pages(), pages)
	checkIds(t, what+": Free", l.Free(), ids...)
}

// load is free.Load of what may be.
func load(t *testing.T, pages int, ids ...int) *free.List {
	t.Helper()
	l, e := free.Load(pages, ids...)
	if e != api.OK || l == nil {
		t.Fatalf("Load of %d, %v: error %d", pages, ids, e)
	}
	return l
}

// span tells the ids from one on below another.
func span(from, below int) []int {
	var ids []int
	for id := from; id < below; id++ {
		ids = append(ids, id)
	}
	return ids
}

func TestP701New(t *testing.T) {
	for pages, want := range map[int]int{
		math.MinInt: 2, -1: 2, 0: 2, 1: 2, 2: 2, 3: 3, 100: 100, 3999: 3999, 4000: 4000, 4001: 4000, math.MaxInt: 4000,
	} {
		l := free.New(pages)
		what := "New of " + strconv.Itoa(pages)
		checkList(t, what, l, want)
		checkIds(t, what+": All", l.All())
		checkIds(t, what+": Pending", l.Pending(0))
	}
}

func TestP701Load(t *testing.T) {
	checkList(t, "of no free ones", load(t, 2), 2)
	checkList(t, "of no free ones, more pages", load(t, 4000), 4000)
	checkList(t, "the only one", load(t, 3, 2), 3, 2)
	checkList(t, "some", load(t, 10, 3, 5, 6), 10, 3, 5, 6)
	checkList(t, "both ends", load(t, 4000, 2, 3999), 4000, 2, 3999)
	l := load(t, 4000, span(2, 4000)...)
	checkList(t, "all", l, 4000, span(2, 4000)...)
	checkIds(t, "all: All", l.All(), span(2, 4000)...)
	for _, tx := range []int{math.MinInt, -1, 0, 1} {
		checkIds(t, "all: Pending", l.Pending(tx))
	}
}

func TestP701LoadOfWhatMayNotBe(t *testing.T) {
	bad := func(pages int, ids ...int) {
		t.Helper()
		if l, e := free.Load(pages, ids...); l != nil || e != api.ErrArg {
			t.Errorf("Load of %d, %v: %v, error %d", pages, ids, l, e)
		}
	}
	for _, pages := range []int{math.MinInt, -1, 0, 1, 4001, math.MaxInt} {
		bad(pages)
		bad(pages, 2)
	}
	for _, id := range []int{math.MinInt, -1, 0, 1, 10, 11, 4000, math.MaxInt} {
		bad(10, id)
	}
	bad(2, 2)
	bad(4000, 4000)
	bad(10, 3, 3)
	bad(10, 2, 2)
	bad(10, 4, 3)
	bad(10, 3, 5, 5, 6)
	bad(10, 3, 5, 4)
	bad(10, 3, 5, 10)
	bad(10, 1, 3)
	bad(10, 3, 1)
	bad(10, 3, math.MinInt)
	bad(10, math.MaxInt, 3)
}

// Ids that were handed in are the caller's: the list neither keeps nor writes them.
func TestP701LoadKeepsNothingOfTheCaller(t *testing.T) {
	ids := []int{3, 5, 6, 7}
	l := load(t, 10, ids...)
	ids[0], ids[3] = 4, 9
	checkIds(t, "Free", l.Free(), 3, 5, 6, 7)
	ids = []int{3, 5, 6, 7}
	l = load(t, 10, ids...)
	checkTake(t, l, 1, 3, api.OK)
	l.Give(1, 4)
	l.Release(2)
	checkIds(t, "what was handed in", ids, 3, 5, 6, 7)
}

func TestP701Take(t *testing.T) {
	l := load(t, 10, 3, 5, 6)
	checkTake(t, l, 2, 5, api.OK)
	checkList(t, "a run", l, 10, 3)
	checkTake(t, l, 2, 10, api.OK)
	checkList(t, "the file grows", l, 12, 3)
	checkTake(t, l, 1, 3, api.OK)
	checkList(t, "the last one", l, 12)
	checkTake(t, l, 1, 12, api.OK)
	checkTake(t, l, 20, 13, api.OK)
	checkList(t, "none is free", l, 33)
}

// The least run counts, not the one that fits best, and of a longer one the front.
func TestP701TakeTheLeastRun(t *testing.T) {
	l := load(t, 50, 2, 4, 5, 7, 8, 9, 10, 12, 13, 20, 22, 23, 24, 30, 31)
	checkTake(t, l, 3, 7, api.OK)
	checkList(t, "the front of a longer one", l, 50, 2, 4, 5, 10, 12, 13, 20, 22, 23, 24, 30, 31)
	checkTake(t, l, 3, 22, api.OK)
	checkList(t, "just so many", l, 50, 2, 4, 5, 10, 12, 13, 20, 30, 31)
	checkTake(t, l, 2, 4, api.OK)
	checkTake(t, l, 2, 12, api.OK)
	checkTake(t, l, 1, 2, api.OK)
	checkTake(t, l, 2, 30, api.OK)
	checkList(t, "single ones", l, 50, 10, 20)
	checkTake(t, l, 2, 50, api.OK)
	checkTake(t, l, 1, 10, api.OK)
	checkTake(t, l, 1, 20, api.OK)
	checkList(t, "none", l, 52)
	l = load(t, 60, slices.Concat(span(2, 21), span(22, 42), span(43, 60))...)
	checkTake(t, l, 20, 22, api.OK)
	checkList(t, "the longest", l, 60, slices.Concat(span(2, 21), span(43, 60))...)
	checkTake(t, l, 19, 2, api.OK)
	checkTake(t, l, 17, 43, api.OK)
	checkList(t, "all", l, 60)
}

// A run that would go over the end of the file is none: what is new begins behind it.
func TestP701TakeAtTheEnd(t *testing.T) {
	l := load(t, 10, 8, 9)
	checkTake(t, l, 3, 10, api.OK)
	checkList(t, "behind the end", l, 13, 8, 9)
	checkTake(t, l, 2, 8, api.OK)
	checkList(t, "up to the end", l, 13)
	l = free.New(2)
	checkTake(t, l, 1, 2, api.OK)
	checkTake(t, l, 3, 3, api.OK)
	checkList(t, "a new file", l, 6)
}

func TestP701TakeOfWrongLengths(t *testing.T) {
	for _, n := range []int{math.MinInt, -20, -1, 0, 21, 22, 4000, math.MaxInt} {
		for _, l := range []*free.List{load(t, 100, span(40, 100)...), free.New(100), free.New(4000)} {
			pages, ids := l.Pages(), l.Free()
			checkTake(t, l, n, 0, api.ErrArg)
			checkList(t, "wrong length "+strconv.Itoa(n), l, pages, ids...)
		}
	}
}

func TestP701TakeOfAFullFile(t *testing.T) {
	for n := 1; n <= 20; n++ {
		l := free.New(4000 - n)
		checkTake(t, l, n, 4000-n, api.OK)
		checkList(t, "just full", l, 4000)
		l = free.New(4001 - n)
		checkTake(t, l, n, 0, api.ErrFull)
		checkList(t, "not enough", l, 4001-n)
		if n > 1 {
			checkTake(t, l, n-1, 4001-n, api.OK)
		}
		checkList(t, "full", l, 4000)
		checkTake(t, l, 1, 0, api.ErrFull)
	}
	l := load(t, 4000, 3, 5, 6, 3999)
	checkTake(t, l, 3, 0, api.ErrFull)
	checkList(t, "no such run", l, 4000, 3, 5, 6, 3999)
	checkTake(t, l, 2, 5, api.OK)
	checkTake(t, l, 2, 0, api.ErrFull)
	checkTake(t, l, 1, 3, api.OK)
	checkTake(t, l, 1, 3999, api.OK)
	checkTake(t, l, 1, 0, api.ErrFull)
	checkList(t, "nothing at all", l, 4000)
}

// What is pending is not free, and no part of a run.
func TestP701TakeLeavesWhatIsPending(t *testing.T) {
	l := load(t, 12, 3, 4, 6, 7)
	l.Give(5, 5, 8)
	checkTake(t, l, 3, 12, api.OK)
	checkTake(t, l, 2, 3, api.OK)
	checkTake(t, l, 2, 6, api.OK)
	checkTake(t, l, 1, 15, api.OK)
	checkIds(t, "Pending", l.Pending(5), 5, 8)
	l.Give(4, 6, 7)
	l.Release(6)
	checkTake(t, l, 4, 5, api.OK)
	checkList(t, "taken behind a Release", l, 16)
	l.Give(1, 2, 3)
	checkTake(t, l, 2, 16, api.OK)
	checkIds(t, "Pending once more", l.Pending(1), 2, 3)
}

func TestP702Give(t *testing.T) {
	l := free.New(20)
	checkInt(t, "none", l.Give(1), 0)
	checkInt(t, "some", l.Give(7, 9, 3, 12), 3)
	checkIds(t, "in order", l.Pending(7), 3, 9, 12)
	checkInt(t, "more", l.Give(7, 4, 2), 2)
	checkInt(t, "of another tx", l.Give(6, 11, 5), 2)
	checkInt(t, "the last one", l.Give(8, 19), 1)
	checkIds(t, "of 7", l.Pending(7), 2, 3, 4, 9, 12)
	checkIds(t, "of 6", l.Pending(6), 5, 11)
	checkIds(t, "of 8", l.Pending(8), 19)
	checkIds(t, "of 5", l.Pending(5))
	checkIds(t, "all", l.All(), 2, 3, 4, 5, 9, 11, 12, 19)
	checkList(t, "none is free yet", l, 20)
}

func TestP702GiveOfWhatCantBeGiven(t *testing.T) {
	l := load(t, 10, 4, 6)
	for _, id := range []int{math.MinInt, -1, 0, 1, 10, 11, 4000, math.MaxInt} {
		checkInt(t, "no page of the file: "+strconv.Itoa(id), l.Give(1, id), 0)
	}
	checkInt(t, "free ones", l.Give(1, 4, 6), 0)
	checkInt(t, "one twice", l.Give(1, 5, 5), 1)
	checkInt(t, "pending already", l.Give(1, 5), 0)
	checkInt(t, "pending for another one", l.Give(2, 5), 0)
	checkInt(t, "all kinds", l.Give(2, 0, 1, 2, 4, 5, 9, 9, 10, -3, 8), 3)
	checkIds(t, "of 1", l.Pending(1), 5)
	checkIds(t, "of 2", l.Pending(2), 2, 8, 9)
	checkList(t, "the free ones", l, 10, 4, 6)
	checkIds(t, "all", l.All(), 2, 4, 5, 6, 8, 9)
	l.Release(3)
	checkInt(t, "free by now", l.Give(3, 2, 5, 8, 9), 0)
	l = free.New(2)
	checkInt(t, "a new file", l.Give(1, 0, 1, 2, 3), 0)
}

// A page that was taken can be given, also one by which the file grew.
func TestP702GiveWhatWasTaken(t *testing.T) {
	l := load(t, 5, 2, 3)
	checkInt(t, "beyond the end", l.Give(1, 5, 6), 0)
	checkTake(t, l, 2, 2, api.OK)
	checkTake(t, l, 2, 5, api.OK)
	checkInt(t, "what was taken", l.Give(1, 2, 3, 5, 6, 7), 4)
	checkIds(t, "Pending", l.Pending(1), 2, 3, 5, 6)
	checkInt(t, "Release", l.Release(2), 4)
	checkTake(t, l, 2, 2, api.OK)
	checkInt(t, "once more", l.Give(2, 3, 2), 2)
	checkIds(t, "Pending once more", l.Pending(2), 2, 3)
	checkList(t, "the others", l, 7, 5, 6)
}

func TestP702Release(t *testing.T) {
	l := load(t, 30, 10)
	l.Give(5, 4, 12)
	l.Give(3, 20, 3)
	l.Give(4, 11)
	checkInt(t, "below the least", l.Release(3), 0)
	checkList(t, "below the least", l, 30, 10)
	checkInt(t, "just the least", l.Release(4), 2)
	checkList(t, "just the least", l, 30, 3, 10, 20)
	checkIds(t, "the least: Pending", l.Pending(3))
	checkIds(t, "the next: Pending", l.Pending(4), 11)
	checkInt(t, "the same", l.Release(4), 0)
	checkInt(t, "less", l.Release(-1), 0)
	checkInt(t, "all", l.Release(math.MaxInt), 3)
	checkList(t, "all", l, 30, 3, 4, 10, 11, 12, 20)
	checkIds(t, "all: All", l.All(), 3, 4, 10, 11, 12, 20)
	checkIds(t, "all: Pending", l.Pending(5))
	checkInt(t, "none", l.Release(math.MaxInt), 0)
	checkTake(t, l, 3, 10, api.OK)
}

// A tx is any number; what is free is pending for none, also not for the 0.
func TestP702AnyTx(t *testing.T) {
	txs := []int{math.MinInt, -1, 0, 1, math.MaxInt}
	l := load(t, 40, 30, 31)
	for i, tx := range txs {
		checkInt(t, "Give", l.Give(tx, 2*i+2, 2*i+3), 2)
	}
	for i, tx := range txs {
		checkIds(t, "Pending of "+strconv.Itoa(tx), l.Pending(tx), 2*i+2, 2*i+3)
		checkInt(t, "Release below "+strconv.Itoa(tx), l.Release(tx), min(2*i, 2))
		checkIds(t, "Pending of "+strconv.Itoa(tx)+" still", l.Pending(tx), 2*i+2, 2*i+3)
	}
	checkList(t, "all but the greatest", l, 40, slices.Concat(span(2, 10), span(30, 32))...)
	checkIds(t, "All", l.All(), slices.Concat(span(2, 12), span(30, 32))...)
}

func TestP702Copy(t *testing.T) {
	l := load(t, 20, 3, 4, 5, 9)
	l.Give(7, 10, 12)
	c := l.Copy()
	same := func(what string, l *free.List) {
		t.Helper()
		checkList(t, what, l, 20, 3, 4, 5, 9)
		checkIds(t, what+": All", l.All(), 3, 4, 5, 9, 10, 12)
		checkIds(t, what+": Pending", l.Pending(7), 10, 12)
	}
	same("the copy", c)
	change := func(l *free.List) {
		checkTake(t, l, 2, 3, api.OK)
		l.Give(6, 3, 11)
		l.Release(8)
		checkTake(t, l, 20, 20, api.OK)
	}
	change(c)
	same("the one that was copied", l)
	c = l.Copy()
	change(l)
	same("a copy of before", c)
	c, d := c.Copy(), c.Copy()
	c.Give(1, 2)
	d.Give(2, 6)
	checkIds(t, "one copy", c.All(), 2, 3, 4, 5, 9, 10, 12)
	checkIds(t, "another one", d.All(), 3, 4, 5, 6, 9, 10, 12)
	c = free.New(0).Copy()
	checkList(t, "a copy of none", c, 2)
	checkTake(t, c, 1, 2, api.OK)
}

// Whatever is done to what was told, and whatever was handed in: the list stays as it was.
func TestP702AnswersAreNew(t *testing.T) {
	l := load(t, 20, 3, 4)
	ids := []int{9, 7, 3, 9}
	l.Give(5, ids...)
	checkIds(t, "what was handed in", ids, 9, 7, 3, 9)
	ids[0], ids[1] = 15, 16
	for _, tell := range []func() []int{l.Free, l.All, func() []int { return l.Pending(5) }} {
		got := tell()
		want := slices.Clone(got)
		for i := range got {
			got[i] = 11
		}
		_ = append(got[:1], 12, 13)
		checkIds(t, "told once more", tell(), want...)
	}
	got := l.All()
	l.Release(6)
	checkTake(t, l, 1, 3, api.OK)
	checkIds(t, "what was told ahead", got, 3, 4, 7, 9)
}

func TestP702NilList(t *testing.T) {
	var l *free.List
	checkTake(t, l, 1, 0, api.ErrArg)
	checkTake(t, l, 0, 0, api.ErrArg)
	checkTake(t, l, 20, 0, api.ErrArg)
	checkInt(t, "Give", l.Give(1, -1, 0, 1, 2, 3), 0)
	checkInt(t, "Give of none", l.Give(1), 0)
	checkInt(t, "Release", l.Release(math.MaxInt), 0)
	checkList(t, "a nil List", l, 0)
	checkIds(t, "Pending", l.Pending(1))
	checkIds(t, "All", l.All())
	if l.Copy() != nil {
		t.Errorf("Copy of a nil List is one")
	}
}

// A zero List hands out no meta.
func TestP702ZeroList(t *testing.T) {
	l := &free.List{}
	checkList(t, "a zero List", l, 2)
	checkInt(t, "Give", l.Give(1, 0, 1, 2), 0)
	checkList(t, "a copy", l.Copy(), 2)
	checkTake(t, l, 3, 2, api.OK)
	checkList(t, "behind a Take", l, 5)
	checkInt(t, "Give", l.Give(1, 4, 5), 1)
}

// Lists share nothing: several of them may be worked on at one time.
func TestP702ListsAreApart(t *testing.T) {
	l := load(t, 4000, span(2, 2000)...)
	var wait sync.WaitGroup
	ends := make([][]int, 8)
	for i := range ends {
		c := l.Copy()
		wait.Go(func() {
			for range i + 1 {
				id, _ := c.Take(10)
				c.Give(1, id)
			}
			c.Release(2)
			ends[i] = c.Free()
		})
	}
	wait.Wait()
	for i, got := range ends {
		// Of each ten that were taken the first one came back.
		want := span(2+10*(i+1), 2000)
		for k := i; k >= 0; k-- {
			want = append([]int{2 + 10*k}, want...)
		}
		checkIds(t, "list "+strconv.Itoa(i), got, want...)
	}
}
