package disk

// write is a write that is not safe.
type write struct {
	turn, at      int
	data          string
	kept          int    // how many bytes of it a crash keeps
	ahead, behind *write // those of its file that came just before it, and just after
	under         *write // the one of its sector that came before it
}

// list has the writes of a file that are not safe, one behind the other, in
// the order in which they came. They are linked: those of sectors that are cut
// go from anywhere in it, without a look at all the others.
type list struct {
	first, last *write
	n           int
}

// add puts a write at the end.
func (l *list) add(w *write) {
	w.ahead = l.last
	if l.last == nil {
		l.first = w
	} else {
		l.last.behind = w
	}
	l.last = w
	l.n++
}

// drop takes a write away.
func (l *list) drop(w *write) {
	if w.ahead == nil {
		l.first = w.behind
	} else {
		w.ahead.behind = w.behind
	}
	if w.behind == nil {
		l.last = w.ahead
	} else {
		w.behind.ahead = w.ahead
	}
	l.n--
}
