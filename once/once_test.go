package once_test

import (
	"errors"
	"math"
	"runtime"
	"slices"
	"strconv"
	"sync"
	"sync/atomic"
	"testing"

	"rootstock/once"
)

// several is how many goroutines go at one time in the tests of P304.
const several = 16

// checkInt holds one number against another.
func checkInt(t *testing.T, what string, got, want int) {
	t.Helper()
	if got != want {
		t.Errorf("%s: %d, not %d", what, got, want)
	}
}

// checkIs holds a yes or no against the one that is wanted.
func checkIs(t *testing.T, what string, got, want bool) {
	t.Helper()
	if got != want {
		t.Errorf("%s: %t, not %t", what, got, want)
	}
}

// checkLeast holds what Least tells against what is wanted.
func checkLeast(t *testing.T, what string, p *once.Pins, want int, is bool) {
	t.Helper()
	if n, ok := p.Least(); n != want || ok != is {
		t.Errorf("%s: Least %d, %t, not %d, %t", what, n, ok, want, is)
	}
}

// of tells a function that answers v.
func of[T any](v T) func() T { return func() T { return v } }

// refused tells a function that must not be called.
func refused[T any](t *testing.T, v T) func() T {
	return func() T {
		t.Error("one more function was called")
		return v
	}
}

// panicOf tells what a call panics with; nil, if it does not.
func panicOf(f func()) (x any) {
	defer func() { x = recover() }()
	f()
	return nil
}

func TestP301FirstAnswerStays(t *testing.T) {
	var c once.Cell[int]
	calls := 0
	checkInt(t, "first Get", c.Get(func() int { calls++; return 7 }), 7)
	checkInt(t, "second Get", c.Get(refused(t, 8)), 7)
	checkInt(t, "Get of nil", c.Get(nil), 7)
	checkInt(t, "Get of one that panics", c.Get(func() int { panic("called") }), 7)
	checkInt(t, "calls of the first function", calls, 1)
}

func TestP301AnyType(t *testing.T) {
	type pair struct {
		a string
		b [2]int
	}
	var texts once.Cell[string]
	if a, b := texts.Get(of("a")), texts.Get(refused(t, "b")); a != "a" || b != "a" {
		t.Errorf("texts: %q, %q", a, b)
	}
	var pairs once.Cell[pair]
	want := pair{"x", [2]int{1, 2}}
	if a, b := pairs.Get(of(want)), pairs.Get(refused(t, pair{})); a != want || b != want {
		t.Errorf("structs: %v, %v", a, b)
	}
	var lists once.Cell[[]int]
	if a, b := lists.Get(of([]int{3, 4})), lists.Get(refused[[]int](t, nil)); !slices.Equal(a, []int{3, 4}) || !slices.Equal(b, a) {
		t.Errorf("lists: %v, %v", a, b)
	}
	var wrong once.Cell[error]
	if a, b := wrong.Get(of[error](nil)), wrong.Get(refused(t, errors.New("x"))); a != nil || b != nil {
		t.Errorf("errors: %v, %v", a, b)
	}
}

func TestP301ZeroAnswerStays(t *testing.T) {
	var c once.Cell[int]
	checkInt(t, "first Get", c.Get(of(0)), 0)
	checkIs(t, "Made", c.Made(), true)
	checkInt(t, "second Get", c.Get(refused(t, 8)), 0)
}

func TestP301NilFunction(t *testing.T) {
	var c once.Cell[int]
	checkInt(t, "Get of nil", c.Get(nil), 0)
	checkIs(t, "Made", c.Made(), true)
	checkInt(t, "the Get behind it", c.Get(refused(t, 8)), 0)
	var s once.Cell[string]
	if a, b := s.Get(nil), s.Get(refused(t, "b")); a != "" || b != "" {
		t.Errorf("texts: %q, %q", a, b)
	}
}

func TestP301Panic(t *testing.T) {
	for _, want := range []any{"why", 7, errors.New("why"), &struct{ n int }{7}} {
		var c once.Cell[int]
		if got := panicOf(func() { c.Get(func() int { panic(want) }) }); got != want {
			t.Errorf("first Get panics with %v, not %v", got, want)
		}
		checkIs(t, "Made behind a panic", c.Made(), true)
		for range 2 {
			got := panicOf(func() { checkInt(t, "Get behind a panic", c.Get(refused(t, 8)), 0) })
			if got != nil {
				t.Errorf("a Get behind a panic panics with %v", got)
			}
		}
	}
	var c once.Cell[int]
	got := panicOf(func() {
		c.Get(func() int {
			var none []int
			return none[len(none)]
		})
	})
	if _, ok := got.(runtime.Error); !ok {
		t.Errorf("first Get panics with %v", got)
	}
	checkInt(t, "Get behind it", c.Get(refused(t, 8)), 0)
}

// A function may end its whole goroutine: it has come to its end then, too.
func TestP301FunctionThatNeverAnswers(t *testing.T) {
	var c once.Cell[int]
	var wait sync.WaitGroup
	wait.Go(func() {
		c.Get(func() int {
			runtime.Goexit()
			return 7
		})
		t.Error("Get answers")
	})
	wait.Wait()
	checkIs(t, "Made", c.Made(), true)
	checkInt(t, "Get", c.Get(refused(t, 8)), 0)
}

func TestP301Made(t *testing.T) {
	var c once.Cell[int]
	checkIs(t, "ahead of all", c.Made(), false)
	checkIs(t, "Made makes nothing", c.Made(), false)
	c.Get(func() int {
		checkIs(t, "while it is made", c.Made(), false)
		return 7
	})
	checkIs(t, "behind Get", c.Made(), true)
	c.Get(of(8))
	checkIs(t, "behind two", c.Made(), true)
}

func TestP301CellsAreApart(t *testing.T) {
	var c [3]once.Cell[int]
	checkInt(t, "the one", c[0].Get(of(7)), 7)
	checkInt(t, "within another", c[1].Get(func() int { return c[0].Get(nil) + 1 }), 8)
	checkIs(t, "Made of the third", c[2].Made(), false)
	checkInt(t, "the third", c[2].Get(of(9)), 9)
	checkInt(t, "the one again", c[0].Get(nil), 7)
}

func TestP302Add(t *testing.T) {
	var c once.Count
	checkInt(t, "Now of a zero one", c.Now(), 0)
	now := 0
	for _, n := range []int{0, 1, 5, -2, 0, -10, 1 << 40, -1 << 50, math.MaxInt} {
		now += n
		checkInt(t, "Add of "+strconv.Itoa(n), c.Add(n), now)
		checkInt(t, "Now behind it", c.Now(), now)
	}
}

func TestP302AddGoesRound(t *testing.T) {
	var c once.Count
	checkInt(t, "to the greatest", c.Add(math.MaxInt), math.MaxInt)
	checkInt(t, "beyond it", c.Add(1), math.MinInt)
	checkInt(t, "Now", c.Now(), math.MinInt)
	checkInt(t, "below the least", c.Add(-1), math.MaxInt)
	checkInt(t, "twice the greatest", c.Add(math.MaxInt), -2)
	var d once.Count
	checkInt(t, "to the least", d.Add(math.MinInt), math.MinInt)
	checkInt(t, "twice the least", d.Add(math.MinInt), 0)
}

func TestP302Most(t *testing.T) {
	var c once.Count
	now := 0
	for _, n := range []int{0, -1, math.MinInt, 3, 3, 2, -9, 4, math.MaxInt - 1, 5, math.MaxInt, math.MaxInt, math.MinInt} {
		now = max(now, n)
		checkInt(t, "Most of "+strconv.Itoa(n), c.Most(n), now)
		checkInt(t, "Now behind it", c.Now(), now)
	}
	var d once.Count
	d.Add(-5)
	checkInt(t, "less, below 0", d.Most(-6), -5)
	checkInt(t, "more, below 0", d.Most(-4), -4)
	checkInt(t, "Now", d.Now(), -4)
	var least once.Count
	least.Add(math.MinInt)
	checkInt(t, "of the least", least.Most(math.MinInt+1), math.MinInt+1)
}

// checkTake holds what Take tells of a count, and what the count is then, against what is wanted.
func checkTake(t *testing.T, c *once.Count, most int, want bool, now int) {
	t.Helper()
	what := "Take of " + strconv.Itoa(most) + " at " + strconv.Itoa(c.Now())
	checkIs(t, what, c.Take(most), want)
	checkInt(t, "Now behind "+what, c.Now(), now)
}

func TestP302Take(t *testing.T) {
	var c once.Count
	for _, most := range []int{0, -1, math.MinInt} {
		checkTake(t, &c, most, false, 0)
	}
	for n := range 3 {
		checkTake(t, &c, 3, true, n+1)
	}
	checkTake(t, &c, 3, false, 3)
	checkTake(t, &c, 2, false, 3)
	checkTake(t, &c, 4, true, 4)
	c.Add(-1)
	checkTake(t, &c, 4, true, 4)
	var below once.Count
	below.Add(-3)
	checkTake(t, &below, -3, false, -3)
	checkTake(t, &below, -2, true, -2)
	checkTake(t, &below, -2, false, -2)
}

func TestP302TakeAtTheEnds(t *testing.T) {
	var c once.Count
	c.Add(math.MaxInt - 1)
	checkTake(t, &c, math.MaxInt, true, math.MaxInt)
	checkTake(t, &c, math.MaxInt, false, math.MaxInt)
	var d once.Count
	d.Add(math.MinInt)
	checkTake(t, &d, math.MinInt, false, math.MinInt)
	checkTake(t, &d, math.MaxInt, true, math.MinInt+1)
}

func TestP303None(t *testing.T) {
	var p once.Pins
	checkLeast(t, "a zero one", &p, 0, false)
	checkInt(t, "Len of a zero one", p.Len(), 0)
	for _, id := range []int{0, 1, -1, math.MinInt, math.MaxInt} {
		checkIs(t, "Drop of "+strconv.Itoa(id)+" of a zero one", p.Drop(id), false)
	}
	checkInt(t, "the first id behind that", p.Pin(5), 1)
	checkIs(t, "Drop", p.Drop(1), true)
	checkLeast(t, "one whose pins are gone", &p, 0, false)
	checkInt(t, "Len of it", p.Len(), 0)
}

func TestP303Ids(t *testing.T) {
	var p once.Pins
	for i, n := range []int{9, 9, 3, -1, 9} {
		checkInt(t, "Pin of "+strconv.Itoa(n), p.Pin(n), i+1)
	}
	for id := 1; id <= 5; id++ {
		checkIs(t, "Drop", p.Drop(id), true)
		checkIs(t, "Drop once more", p.Drop(id), false)
	}
	checkInt(t, "Pin behind all that are gone", p.Pin(9), 6)
	checkIs(t, "Drop of the next id", p.Drop(7), false)
	checkIs(t, "Drop of a number that is no id", p.Drop(9), false)
	checkInt(t, "Pin", p.Pin(9), 7)
	checkInt(t, "Len", p.Len(), 2)
}

func TestP303Least(t *testing.T) {
	var p once.Pins
	steps := []struct{ pin, drop, least int }{
		{pin: 5, least: 5}, // 1
		{pin: 7, least: 5}, // 2
		{pin: 5, least: 5}, // 3
		{pin: 4, least: 4}, // 4
		{drop: 1, least: 4},
		{drop: 4, least: 5},
		{drop: 3, least: 7},
		{pin: 0, least: 0},                         // 5
		{pin: -8, least: -8},                       // 6
		{pin: math.MinInt, least: math.MinInt},     // 7
		{pin: math.MinInt + 1, least: math.MinInt}, // 8
		{drop: 7, least: math.MinInt + 1},
		{drop: 8, least: -8},
		{drop: 6, least: 0},
		{drop: 5, least: 7},
		{pin: math.MaxInt, least: 7}, // 9
		{drop: 2, least: math.MaxInt},
	}
	for i, s := range steps {
		if s.drop == 0 {
			p.Pin(s.pin)
		} else {
			checkIs(t, "Drop of step "+strconv.Itoa(i), p.Drop(s.drop), true)
		}
		checkLeast(t, "step "+strconv.Itoa(i), &p, s.least, true)
	}
	checkInt(t, "Len", p.Len(), 1)
}

// checkPins holds all that pins tell against the numbers that are held, by their ids.
func checkPins(t *testing.T, what string, p *once.Pins, held map[int]int) {
	t.Helper()
	least, ok := 0, false
	for _, n := range held {
		if !ok || n < least {
			least, ok = n, true
		}
	}
	checkLeast(t, what, p, least, ok)
	checkInt(t, what+": Len", p.Len(), len(held))
}

// Whatever comes and goes: what is told is what a plain map of all pins tells.
func TestP303AnyOrder(t *testing.T) {
	for seed := range 20 {
		var p once.Pins
		held := map[int]int{}
		x, last := uint32(seed), 0
		for range 1000 {
			x = x*1664525 + 1013904223
			draw := int(x >> 8)
			if id := draw%(last+2) + 1; draw>>12%5 < 3 {
				_, ok := held[id]
				checkIs(t, "Drop of "+strconv.Itoa(id), p.Drop(id), ok)
				delete(held, id)
			} else {
				n := draw>>4%40 - 20
				last++
				checkInt(t, "Pin of "+strconv.Itoa(n), p.Pin(n), last)
				held[last] = n
			}
			checkPins(t, "draws of "+strconv.Itoa(seed), &p, held)
		}
	}
}

// Many pins, dropped from the least on, from the greatest on, and from the middle: the least of those that are left is told each time.
func TestP303Many(t *testing.T) {
	const many = 20000
	next := map[string]func(i int) int{
		"from the least on":    func(i int) int { return i },
		"from the greatest on": func(i int) int { return many - 1 - i },
		"from the middle on":   func(i int) int { return (i + many/2) % many },
	}
	for what, at := range next {
		var p once.Pins
		ids := make([]int, many)
		for n := range many {
			ids[n] = p.Pin(n)
		}
		gone := make([]bool, many)
		least := 0
		for i := range many {
			checkIs(t, what+": Drop", p.Drop(ids[at(i)]), true)
			gone[at(i)] = true
			for least < many && gone[least] {
				least++
			}
			checkLeast(t, what, &p, least%many, least < many)
			checkInt(t, what+": Len", p.Len(), many-1-i)
		}
	}
}

func TestP304OneMakesForSeveral(t *testing.T) {
	for range 50 {
		var c once.Cell[int]
		var calls atomic.Int64
		var wait sync.WaitGroup
		got := make([]int, several)
		for i := range got {
			wait.Go(func() {
				got[i] = c.Get(func() int {
					runtime.Gosched()
					calls.Add(1)
					return 100 + i
				})
				checkIs(t, "Made behind Get", c.Made(), true)
			})
		}
		wait.Wait()
		checkInt(t, "calls", int(calls.Load()), 1)
		for _, n := range got {
			checkInt(t, "Get", n, c.Get(nil))
		}
	}
}

// One who comes while it is made waits for that answer; nothing is Made till then.
func TestP304GetWaitsForTheFirst(t *testing.T) {
	var c once.Cell[int]
	var wait sync.WaitGroup
	begun, goOn := make(chan int), make(chan int)
	wait.Go(func() {
		checkInt(t, "the first", c.Get(func() int {
			close(begun)
			<-goOn
			return 7
		}), 7)
	})
	<-begun
	for range several {
		wait.Go(func() { checkInt(t, "one that waits", c.Get(refused(t, 8)), 7) })
	}
	runtime.Gosched()
	checkIs(t, "Made on the way", c.Made(), false)
	close(goOn)
	wait.Wait()
	checkIs(t, "Made", c.Made(), true)
}

// Just the first one of several panics; the others are told a zero answer.
func TestP304OnePanicOfSeveral(t *testing.T) {
	var c once.Cell[int]
	var panics atomic.Int64
	var wait sync.WaitGroup
	for range several {
		wait.Go(func() {
			if panicOf(func() { checkInt(t, "Get", c.Get(func() int { panic("why") }), 0) }) != nil {
				panics.Add(1)
			}
		})
	}
	wait.Wait()
	checkInt(t, "panics", int(panics.Load()), 1)
}

// together lets several goroutines begin f at one time, and waits for all.
func together(f func(i int)) {
	var wait sync.WaitGroup
	gate := make(chan int)
	for i := range several {
		wait.Go(func() {
			<-gate
			f(i)
		})
	}
	close(gate)
	wait.Wait()
}

func TestP304SeveralAdd(t *testing.T) {
	const times = 2000
	var c once.Count
	seen := make([][]int, several)
	together(func(i int) {
		for range times {
			seen[i] = append(seen[i], c.Add(1))
		}
	})
	all := slices.Concat(seen...)
	slices.Sort(all)
	for i, n := range all {
		checkInt(t, "Adds in order", n, i+1)
	}
	checkInt(t, "Now", c.Now(), several*times)
}

// Each number up to the bound is taken by just one of several.
func TestP304SeveralTake(t *testing.T) {
	const most = 500000
	var c once.Count
	var trues atomic.Int64
	together(func(int) {
		n := 0
		for c.Take(most) {
			n++
		}
		trues.Add(int64(n))
	})
	checkInt(t, "how many Takes were true", int(trues.Load()), most)
	checkInt(t, "Now", c.Now(), most)
}

// Whoever makes it greater at the same time: it is never less than what one of them was told.
func TestP304SeveralMost(t *testing.T) {
	const times = 50000
	var c once.Count
	together(func(i int) {
		last := 0
		for n := range times {
			now := c.Most(n*several + i)
			if now < n*several+i || now < last {
				t.Error("Most tells", now, "behind", last, "of", n*several+i)
			}
			last = now
		}
	})
	checkInt(t, "Now", c.Now(), times*several-1)
}

func TestP304SeveralPin(t *testing.T) {
	const times = 300
	var p once.Pins
	var wait sync.WaitGroup
	seen := make([][]int, several)
	checkInt(t, "the first pin", p.Pin(-1), 1)
	for i := range several {
		wait.Go(func() {
			for n := range times {
				id := p.Pin(i*times + n)
				seen[i] = append(seen[i], id)
				checkLeast(t, "Least on the way", &p, -1, true)
				if n%3 > 0 {
					checkIs(t, "Drop", p.Drop(id), true)
					checkIs(t, "Drop once more", p.Drop(id), false)
				}
			}
		})
	}
	wait.Wait()
	all := slices.Concat(seen...)
	slices.Sort(all)
	for i, id := range all {
		checkInt(t, "ids in order", id, i+2)
	}
	checkInt(t, "Len", p.Len(), several*times/3+1)
	checkIs(t, "Drop of the first pin", p.Drop(1), true)
	checkLeast(t, "Least at the end", &p, 0, true)
}

// Of several that drop one pin just one is told true.
func TestP304SeveralDropOne(t *testing.T) {
	var p once.Pins
	for n := range 100 {
		id := p.Pin(n)
		var trues atomic.Int64
		var wait sync.WaitGroup
		for range several {
			wait.Go(func() {
				if p.Drop(id) {
					trues.Add(1)
				}
			})
		}
		wait.Wait()
		checkInt(t, "Drops that were true", int(trues.Load()), 1)
	}
	checkInt(t, "Len", p.Len(), 0)
}

func TestP304NilCell(t *testing.T) {
	var c *once.Cell[int]
	calls := 0
	for want := 1; want <= 3; want++ {
		checkInt(t, "Get", c.Get(func() int { calls++; return calls }), want)
		checkIs(t, "Made", c.Made(), false)
	}
	checkInt(t, "Get of another one", c.Get(of(8)), 8)
	checkInt(t, "Get of nil", c.Get(nil), 0)
	for range 2 {
		if got := panicOf(func() { c.Get(func() int { panic("why") }) }); got != "why" {
			t.Errorf("Get panics with %v", got)
		}
	}
	checkIs(t, "Made behind all", c.Made(), false)
}

func TestP304NilCountAndPins(t *testing.T) {
	var c *once.Count
	var p *once.Pins
	for _, n := range []int{0, 1, -1, math.MaxInt, math.MinInt} {
		checkInt(t, "Add", c.Add(n), 0)
		checkInt(t, "Most", c.Most(n), 0)
		checkIs(t, "Take", c.Take(n), false)
		checkInt(t, "Now", c.Now(), 0)
		checkInt(t, "Pin", p.Pin(n), 0)
		checkIs(t, "Drop", p.Drop(n), false)
		checkLeast(t, "nil pins", p, 0, false)
		checkInt(t, "Len", p.Len(), 0)
	}
}
