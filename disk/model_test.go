package disk_test

import (
	"maps"
	"slices"
	"strconv"
	"strings"
	"testing"

	"rootstock/api"
	"rootstock/disk"
)

// model is a disk as the chapter tells it, without any thought of time.
type model struct {
	on        bool
	room      int
	now, safe map[string][]string // by names; a file that never was safe is not in safe
	writes    []modelWrite
	left      int // below 0: not armed
	keep      []int
}

type modelWrite struct {
	name string
	at   int
	data string
}

func newModel(room int) *model {
	return &model{on: true, room: room, now: map[string][]string{}, safe: map[string][]string{}, left: -1}
}

func (m *model) used() int {
	n := 0
	for _, l := range m.now {
		n += len(l)
	}
	return n
}

// forget takes away the writes that gone tells.
func (m *model) forget(gone func(w modelWrite) bool) { m.writes = slices.DeleteFunc(m.writes, gone) }

// find tells what stands against a call on a file that has to be there.
func (m *model) find(names ...string) api.Errno {
	if !m.on {
		return api.ErrOff
	}
	for _, name := range names {
		if name == "" || len(name) > 40 {
			return api.ErrArg
		}
	}
	if _, ok := m.now[names[0]]; !ok {
		return api.ErrNone
	}
	return api.OK
}

// counted lets the power go, if it is time; false then.
func (m *model) counted() bool {
	if m.left == 0 {
		m.crash(m.keep)
		return false
	}
	m.left = max(m.left-1, -1)
	return true
}

func (m *model) write(name string, at int, data string) api.Errno {
	if e := m.find(name); e != api.OK && e != api.ErrNone {
		return e
	}
	l, is := m.now[name]
	switch {
	case len(data) != 256:
		return api.ErrArg
	case at < 0 || at > len(l) || at > 4000:
		return api.ErrRange
	case at == len(l) && m.room > 0 && m.used() >= m.room || !is && len(m.now) == 60:
		return api.ErrFull
	case at == len(l):
		m.now[name] = append(slices.Clone(l), data)
	default:
		l[at] = data
	}
	m.writes = append(m.writes, modelWrite{name, at, data})
	if !m.counted() {
		return api.ErrOff
	}
	return api.OK
}

// change does what is neither a Write nor wrong, if the power stays.
func (m *model) change(e api.Errno, do func()) api.Errno {
	if e != api.OK {
		return e
	}
	if !m.counted() {
		return api.ErrOff
	}
	do()
	return api.OK
}

func (m *model) sync(name string) api.Errno {
	return m.change(m.find(name), func() {
		m.safe[name] = slices.Clone(m.now[name])
		m.forget(func(w modelWrite) bool { return w.name == name })
	})
}

func (m *model) cut(name string, n int) api.Errno {
	e := m.find(name)
	if e == api.OK && (n < 0 || n > len(m.now[name])) {
		e = api.ErrRange
	}
	return m.change(e, func() {
		m.now[name] = m.now[name][:n]
		if l, ok := m.safe[name]; ok {
			m.safe[name] = l[:min(n, len(l))]
		}
		m.forget(func(w modelWrite) bool { return w.name == name && w.at >= n })
	})
}

func (m *model) rename(from, to string) api.Errno {
	return m.change(m.find(from, to), func() {
		if from == to {
			return
		}
		m.drop(to)
		m.now[to] = m.now[from]
		if l, ok := m.safe[from]; ok {
			m.safe[to] = l
		}
		for i := range m.writes {
			if m.writes[i].name == from {
				m.writes[i].name = to
			}
		}
		delete(m.now, from)
		delete(m.safe, from)
	})
}

func (m *model) drop(name string) {
	delete(m.now, name)
	delete(m.safe, name)
	m.forget(func(w modelWrite) bool { return w.name == name })
}

func (m *model) remove(name string) api.Errno {
	return m.change(m.find(name), func() { m.drop(name) })
}

func (m *model) crash(keep []int) int {
	if !m.on {
		return 0
	}
	lost := 0
	for i, w := range m.writes {
		k := 0
		if i < len(keep) {
			k = min(max(keep[i], 0), 256)
		}
		if k < 256 {
			lost++
		}
		if k > 0 {
			l := m.safe[w.name]
			for len(l) <= w.at {
				l = append(l, strings.Repeat("\x00", 256))
			}
			l[w.at] = w.data[:k] + l[w.at][k:]
			m.safe[w.name] = l
		}
	}
	m.now = map[string][]string{}
	for name, l := range m.safe {
		m.now[name] = slices.Clone(l)
	}
	m.on, m.left, m.keep, m.writes = false, -1, nil, nil
	return lost
}

func (m *model) twin() *model {
	t := *m
	t.now, t.safe = map[string][]string{}, map[string][]string{}
	for name, l := range m.now {
		t.now[name] = slices.Clone(l)
	}
	for name, l := range m.safe {
		t.safe[name] = slices.Clone(l)
	}
	t.writes, t.keep = slices.Clone(m.writes), slices.Clone(m.keep)
	return &t
}

// checkModel holds all that a disk tells against the model.
func checkModel(t *testing.T, what string, d *disk.Disk, m *model) {
	t.Helper()
	checkIs(t, what+": On", d.On(), m.on)
	checkInt(t, what+": Used", d.Used(), m.used())
	checkInt(t, what+": Dirty", d.Dirty(), len(m.writes))
	if !m.on {
		checkList(t, what, d, "")
		return
	}
	checkList(t, what, d, "", slices.Sorted(maps.Keys(m.now))...)
	for name, l := range m.now {
		checkFile(t, what, d, name, l...)
	}
}

// draws are numbers that are as good as drawn, but the same each time.
type draws struct{ x uint32 }

// below tells one from 0 on below n.
func (r *draws) below(n int) int {
	r.x = r.x*1664525 + 1013904223
	return int(r.x>>8) % n
}

// name tells a name, now and then one that is none.
func (r *draws) name() string {
	if k := r.below(40); k > 0 {
		return string([]byte{'a' + byte(k%4)})
	}
	return strings.Repeat("n", 41*r.below(2))
}

// keep tells how much a crash keeps.
func (r *draws) keep() []int {
	l := make([]int, r.below(12))
	for i := range l {
		l[i] = []int{0, 256, 300, -1, 1, 255, r.below(256)}[r.below(7)]
	}
	return l
}

// data tells the bytes of a sector, now and then too many or too few.
func (r *draws) data() string {
	b := make([]byte, api.Sector)
	for i := range b {
		b[i] = byte(r.below(256))
	}
	if r.below(40) == 0 {
		b = append(b[:255], make([]byte, 2*r.below(2))...)
	}
	return string(b)
}

// act does one drawn call to both, and tells what it was, what the disk told, and what the model did.
func (r *draws) act(d *disk.Disk, m *model) (string, int, int) {
	switch k := r.below(40); {
	case k < 16:
		name, at, data := r.name(), r.below(9)-1, r.data()
		if l := m.now[name]; k < 12 {
			at = r.below(len(l) + 1)
		}
		return "Write " + name + " " + strconv.Itoa(at), int(d.Write(name, at, data)), int(m.write(name, at, data))
	case k < 22:
		name := r.name()
		return "Sync " + name, int(d.Sync(name)), int(m.sync(name))
	case k < 26:
		name, n := r.name(), r.below(8)-1
		return "Cut " + name + " " + strconv.Itoa(n), int(d.Cut(name, n)), int(m.cut(name, n))
	case k < 29:
		from, to := r.name(), r.name()
		return "Rename " + from + " " + to, int(d.Rename(from, to)), int(m.rename(from, to))
	case k < 30:
		name := r.name()
		return "Remove " + name, int(d.Remove(name)), int(m.remove(name))
	case k < 32:
		l := r.keep()
		return "Crash", d.Crash(l...), m.crash(l)
	case k < 33:
		n, l := r.below(8)-1, r.keep()
		d.Arm(n, l...)
		m.left, m.keep = n, l
		return "Arm " + strconv.Itoa(n), 0, 0
	case k < 34:
		n := r.below(20) - 1
		d.Room(n)
		m.room = n
		return "Room " + strconv.Itoa(n), 0, 0
	}
	d.Restore()
	m.on = true
	return "Restore", 0, 0
}

// Whatever is called, in whatever order: all that is told is what the model tells, of a disk and of a twin of it.
func TestP403AnyOrder(t *testing.T) {
	for seed := range 400 {
		r := &draws{uint32(seed)}
		room := r.below(30)
		d, m := disk.New(room), newModel(room)
		other, of := d.Twin(), m.twin()
		for i := range 300 {
			what, got, want := r.act(d, m)
			what = "seed " + strconv.Itoa(seed) + ", call " + strconv.Itoa(i) + ", " + what
			checkInt(t, what, got, want)
			checkModel(t, what, d, m)
			if i%60 == 59 {
				checkModel(t, what+", the twin of before", other, of)
				other, of = d, m
				d, m = d.Twin(), m.twin()
				checkModel(t, what+", a twin", d, m)
			}
			if t.Failed() {
				return
			}
		}
	}
}
