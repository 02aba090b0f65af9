package store_test

import (
	"slices"
	"strconv"
	"testing"

	"rootstock/api"
	"rootstock/disk"
	"rootstock/meta"
	"rootstock/page"
	"rootstock/store"
)

// model is a store as the chapter tells it: each write is done by hand on a disk of its own.
type model struct {
	d     *disk.Disk
	reads int
}

// size tells how many sectors the file has.
func (m *model) size() int {
	n, _ := m.d.Size("f")
	return n
}

// write writes a sector behind those that fill the file up to so many.
func (m *model) write(fill, at int, data string) api.Errno {
	for m.size() < fill {
		if e := m.d.Write("f", m.size(), zeros()); e != api.OK {
			return e
		}
	}
	return m.d.Write("f", at, data)
}

func (m *model) put(l []api.Page) api.Errno {
	for _, p := range l {
		if !page.Valid(p) || p.Kind == api.Meta || p.Id == 0 || p.Id == 1 {
			return api.ErrArg
		}
	}
	for _, p := range l {
		b, _ := page.Lay(p)
		if e := m.write(p.Id, p.Id, b); e != api.OK {
			return e
		}
	}
	return api.OK
}

func (m *model) setMeta(x meta.Meta) api.Errno {
	b, e := meta.Lay(x)
	if e != api.OK {
		return e
	}
	return m.write(2, x.Tx%2, b)
}

func (m *model) sync() api.Errno {
	if !m.d.On() {
		return api.ErrOff
	}
	if !slices.Contains(m.d.List(""), "f") {
		return api.OK
	}
	return m.d.Sync("f")
}

func (m *model) get(id int) (api.Page, api.Errno) {
	b, e := m.d.Read("f", id)
	if e != api.OK {
		return api.Page{}, e
	}
	p, e := page.Read(b)
	if e != api.OK {
		return api.Page{}, e
	}
	if p.Id != id || p.Kind == api.Meta {
		return api.Page{}, api.ErrBroken
	}
	m.reads++
	return p, api.OK
}

func (m *model) meta() (meta.Meta, api.Errno) {
	if !m.d.On() {
		return meta.Meta{}, api.ErrOff
	}
	l := append(file(m.d, "f"), "", "")
	return meta.Choose(l[0], l[1])
}

// draws are numbers that are as good as drawn, but the same each time.
type draws struct{ x uint32 }

// below tells one from 0 on below n.
func (r *draws) below(n int) int {
	r.x = r.x*1664525 + 1013904223
	return int(r.x>>8) % n
}

// pages tells some pages, most of which may be put.
func (r *draws) pages() []api.Page {
	var l []api.Page
	for range r.below(4) {
		l = append(l, api.Page{Kind: 2 + r.below(4), Id: 2 + r.below(12), Tx: r.below(100), Body: strconv.Itoa(r.below(1000))})
	}
	if r.below(8) == 0 {
		l = append(l, wrong()[r.below(len(wrong()))])
	}
	return l
}

// keep tells what a crash keeps: of most writes all or nothing.
func (r *draws) keep() []int {
	var l []int
	for range r.below(20) {
		l = append(l, []int{0, api.Sector, api.Sector, r.below(257)}[r.below(4)])
	}
	return l
}

// metaOf tells a meta, most of which may be.
func (r *draws) metaOf() meta.Meta { return meta.Meta{Tx: r.below(30), Root: 2 + r.below(5), Pages: 6} }

// both does the same with both disks.
func both(s, m *disk.Disk, do func(d *disk.Disk)) {
	do(s)
	do(m)
}

// act does one drawn call to both, and tells what it was, and both errors.
func (r *draws) act(d *disk.Disk, s *store.Store, m *model) (string, api.Errno, api.Errno) {
	switch k := r.below(24); {
	case k < 10:
		l := r.pages()
		return "Put", s.Put(l...), m.put(l)
	case k < 14:
		x := r.metaOf()
		return "SetMeta", s.SetMeta(x), m.setMeta(x)
	case k < 18:
		return "Sync", s.Sync(), m.sync()
	case k < 19:
		n, keep := r.below(6), r.keep()
		both(d, m.d, func(d *disk.Disk) { d.Arm(n, keep...) })
		return "Arm", api.OK, api.OK
	case k < 20:
		keep := r.keep()
		both(d, m.d, func(d *disk.Disk) { d.Crash(keep...) })
		return "Crash", api.OK, api.OK
	case k < 21:
		n := r.below(16)
		both(d, m.d, func(d *disk.Disk) { d.Room(n) })
		return "Room", api.OK, api.OK
	case k < 22:
		n := r.below(12)
		both(d, m.d, func(d *disk.Disk) { d.Cut("f", n) })
		return "Cut", api.OK, api.OK
	}
	both(d, m.d, (*disk.Disk).Restore)
	return "Restore", api.OK, api.OK
}

// checkModel holds all that a store tells, and what is on its disk, against the model.
func checkModel(t *testing.T, what string, d *disk.Disk, s *store.Store, m *model) {
	t.Helper()
	for id := -1; id < 16; id++ {
		want, bad := m.get(id)
		checkGet(t, what, s, id, want, bad)
	}
	want, bad := m.meta()
	checkMeta(t, what, s, want, bad)
	checkInt(t, what+": Size", s.Size(), m.size())
	checkInt(t, what+": Reads", s.Reads(), m.reads)
	checkInt(t, what+": Dirty", d.Dirty(), m.d.Dirty())
	checkFile(t, what, d, file(m.d, "f")...)
}

// Whatever is called, in whatever order, and wherever the power goes: all is told as the model tells it.
func TestP801AnyOrder(t *testing.T) {
	told := map[string]int{}
	for seed := range 200 {
		r := &draws{uint32(seed)}
		d := disk.New(0)
		s, m := open(t, d, "f"), &model{d: d.Twin()}
		for i := range 100 {
			what, got, want := r.act(d, s, m)
			told[what+" "+strconv.Itoa(int(want))]++
			what = "seed " + strconv.Itoa(seed) + ", call " + strconv.Itoa(i) + ", " + what
			check(t, what, got, want)
			checkModel(t, what, d, s, m)
			if t.Failed() {
				return
			}
		}
	}
	for _, what := range []string{"Put 0", "Put 1", "Put 14", "Put 20", "SetMeta 0", "SetMeta 1", "SetMeta 14", "SetMeta 20", "Sync 0", "Sync 14"} {
		if told[what] < 10 {
			t.Errorf("%s came but %d times", what, told[what])
		}
	}
}
