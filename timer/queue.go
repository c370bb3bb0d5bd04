package timer

// entry of a timer that is set.
type entry struct {
	kind  int
	at    uint64
	place int // in the queue, so that it is found there without a search
}

// queue of the timers, in the order of a heap: its first one is the next.
type queue []*entry

// Len is the number of entries.
func (q queue) Len() int {
	return len(q)
}

// Less tells whether an entry comes ahead of another: as no two have the same kind, there is one order alone.
func (q queue) Less(i, j int) bool {
	if q[i].at != q[j].at {
		return q[i].at < q[j].at
	}
	return q[i].kind < q[j].kind
}

// Swap two entries.
func (q queue) Swap(i, j int) {
	q[i], q[j] = q[j], q[i]
	q[i].place, q[j].place = i, j
}

// Push an entry behind the others.
func (q *queue) Push(x any) {
	e := x.(*entry)
	e.place = len(*q)
	*q = append(*q, e)
}

// Pop the entry behind the others.
func (q *queue) Pop() any {
	last := len(*q) - 1
	e := (*q)[last]
	// What is taken out is not to stay in the list's memory.
	(*q)[last] = nil
	*q = (*q)[:last]
	return e
}
