package once

// pin is a number that is held, and its id.
type pin struct{ n, id int }

// queue has pins with the least number first, as container/heap asks for it.
// It knows each one's place by its id: a pin goes from anywhere in it, without
// a look at all the others.
type queue struct {
	pins  []pin
	place map[int]int
}

// Len tells how many pins there are.
func (q *queue) Len() int { return len(q.pins) }

// Less tells whether one has the lesser number.
func (q *queue) Less(i, j int) bool { return q.pins[i].n < q.pins[j].n }

// Swap lets two change their places.
func (q *queue) Swap(i, j int) {
	q.pins[i], q.pins[j] = q.pins[j], q.pins[i]
	q.place[q.pins[i].id], q.place[q.pins[j].id] = i, j
}

// Push puts a pin at the end.
func (q *queue) Push(x any) {
	if q.place == nil {
		q.place = map[int]int{}
	}
	p := x.(pin)
	q.place[p.id] = len(q.pins)
	q.pins = append(q.pins, p)
}

// Pop takes the pin at the end away.
func (q *queue) Pop() any {
	end := len(q.pins) - 1
	p := q.pins[end]
	q.pins = q.pins[:end]
	delete(q.place, p.id)
	return p
}
