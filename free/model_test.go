package free_test

import (
	"strconv"
	"testing"

	"rootstock/api"
	"rootstock/free"
)

// model is a list as the chapter tells it: what each page of the file is.
type model []state

type state struct {
	is string // "" in use, "free", "pending"
	tx int
}

// ids tells the pages that are so, rising.
func (m model) ids(is func(s state) bool) []int {
	var l []int
	for id, s := range m {
		if is(s) {
			l = append(l, id)
		}
	}
	return l
}

func (m model) free() []int { return m.ids(func(s state) bool { return s.is == "free" }) }
func (m model) all() []int  { return m.ids(func(s state) bool { return s.is != "" }) }

func (m model) pending(tx int) []int {
	return m.ids(func(s state) bool { return s == state{"pending", tx} })
}

// runs tells whether n free ids begin here.
func (m model) runs(id, n int) bool {
	for k := id; k < id+n; k++ {
		if k >= len(m) || m[k].is != "free" {
			return false
		}
	}
	return true
}

func (m *model) take(n int) (int, api.Errno) {
	if n < 1 || n > 20 {
		return 0, api.ErrArg
	}
	for id := range *m {
		if m.runs(id, n) {
			for k := range n {
				(*m)[id+k] = state{}
			}
			return id, api.OK
		}
	}
	if len(*m)+n > 4000 {
		return 0, api.ErrFull
	}
	*m = append(*m, make(model, n)...)
	return len(*m) - n, api.OK
}

func (m model) give(tx int, ids []int) int {
	n := 0
	for _, id := range ids {
		if id >= 2 && id < len(m) && m[id].is == "" {
			m[id] = state{"pending", tx}
			n++
		}
	}
	return n
}

func (m model) release(below int) int {
	n := 0
	for id, s := range m {
		if s.is == "pending" && s.tx < below {
			m[id] = state{is: "free"}
			n++
		}
	}
	return n
}

// checkModel holds all that a list tells against the model.
func checkModel(t *testing.T, what string, l *free.List, m model) {
	t.Helper()
	checkList(t, what, l, len(m), m.free()...)
	checkIds(t, what+": All", l.All(), m.all()...)
	for tx := range 12 {
		checkIds(t, what+": Pending "+strconv.Itoa(tx), l.Pending(tx), m.pending(tx)...)
	}
}

// draws are numbers that are as good as drawn, but the same each time.
type draws struct{ x uint32 }

// below tells one from 0 on below n.
func (r *draws) below(n int) int {
	r.x = r.x*1664525 + 1013904223
	return int(r.x>>8) % n
}

// ids tells some, of a file of so many pages, or a little beyond it.
func (r *draws) ids(pages int) []int {
	var l []int
	id := r.below(pages + 3)
	for range r.below(12) {
		l = append(l, id)
		if id++; r.below(3) == 0 {
			id = r.below(pages+3) - 1
		}
	}
	return l
}

// act does one drawn call to both, and tells what it was, what the list told, and what the model did.
func (r *draws) act(l *free.List, m *model) (string, int, int) {
	switch k := r.below(20); {
	case k < 9:
		n := r.below(5) + 1
		if r.below(6) == 0 {
			n = r.below(24) - 1
		}
		id, e := l.Take(n)
		want, bad := m.take(n)
		return "Take " + strconv.Itoa(n), 100*id + int(e), 100*want + int(bad)
	case k < 16:
		tx, ids := r.below(12), r.ids(len(*m))
		return "Give " + strconv.Itoa(tx), l.Give(tx, ids...), m.give(tx, ids)
	}
	below := r.below(14) - 1
	return "Release " + strconv.Itoa(below), l.Release(below), m.release(below)
}

// Whatever is called, in whatever order: all that is told is what the model tells, of a list and of one that it was copied of.
func TestP702AnyOrder(t *testing.T) {
	for seed := range 300 {
		r := &draws{uint32(seed)}
		pages := []int{2, 3, 30, 3950, 4000}[seed%5]
		l, m := free.New(pages), make(model, pages)
		other, of := l.Copy(), append(model{}, m...)
		for i := range 200 {
			what, got, want := r.act(l, &m)
			what = "seed " + strconv.Itoa(seed) + ", call " + strconv.Itoa(i) + ", " + what
			checkInt(t, what, got, want)
			if pages < 100 || i%20 == 19 {
				checkModel(t, what, l, m)
			}
			if i%60 == 59 {
				checkModel(t, what+", the one of before", other, of)
				other, of = l, m
				l, m = l.Copy(), append(model{}, m...)
			}
			if t.Failed() {
				return
			}
		}
	}
}
