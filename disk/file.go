package disk

import (
	"cmp"
	"slices"
	"strings"

	"rootstock/api"
)

// file has sectors as they were written last, and as they are safe.
type file struct {
	sectors []sector
	safe    int  // how many of them, from the front on, are safe
	stays   bool // it is there behind a crash, even if that keeps no write
	writes  list // those that are not safe
}

// sector is a sector of a file.
type sector struct {
	now  string // as it was written last
	safe string // as it is safe; "", if it is not
	top  *write // the last write of it that is not safe
}

// size tells how many sectors it has; a file that is not there has none.
func (f *file) size() int {
	if f == nil {
		return 0
	}
	return len(f.sectors)
}

// dirty tells how many of its writes are not safe.
func (f *file) dirty() int { return f.writes.n }

// write writes a sector, perhaps one behind the last one.
func (f *file) write(turn, at int, data string) {
	if at == len(f.sectors) {
		f.sectors = append(f.sectors, sector{})
	}
	s := &f.sectors[at]
	w := &write{turn: turn, at: at, data: data, under: s.top}
	f.writes.add(w)
	s.now, s.top = data, w
}

// sync makes all of it safe as it is.
func (f *file) sync() {
	for w := f.writes.first; w != nil; w = w.behind {
		s := &f.sectors[w.at]
		s.safe, s.top = s.now, nil
	}
	f.safe, f.stays, f.writes = len(f.sectors), true, list{}
}

// cut takes the sectors from n on away, with what is safe of them, and with their writes.
func (f *file) cut(n int) {
	for _, s := range f.sectors[n:] {
		for w := s.top; w != nil; w = w.under {
			f.writes.drop(w)
		}
	}
	f.sectors = slices.Delete(f.sectors, n, len(f.sectors))
	f.safe = min(f.safe, n)
}

// crash does what was kept of its writes upon what is safe, and makes that
// safe; false, if nothing is left of it. Each sector that is not safe has a
// write, so that going through the writes finds all that has to go back.
func (f *file) crash() bool {
	zeros := strings.Repeat("\x00", api.Sector)
	for w := f.writes.first; w != nil; w = w.behind {
		s := &f.sectors[w.at]
		s.now = cmp.Or(s.safe, zeros)
	}
	size := f.safe
	for w := f.writes.first; w != nil; w = w.behind {
		if w.kept > 0 {
			s := &f.sectors[w.at]
			s.now = w.data[:w.kept] + s.now[w.kept:]
			size = max(size, w.at+1)
		}
	}
	left := f.stays || size > 0
	f.sync()
	f.cut(size)
	return left
}

// twin makes another one that is the same.
func (f *file) twin() *file {
	t := &file{sectors: slices.Clone(f.sectors), safe: f.safe, stays: f.stays}
	for i := range t.sectors {
		t.sectors[i].top = nil
	}
	for w := f.writes.first; w != nil; w = w.behind {
		t.write(w.turn, w.at, w.data)
	}
	return t
}
