package sched

// row of things. Each has a link, by which it is taken out without a search.
type row[T any] struct {
	first, last *link[T]
	added       int
}

// link of a thing in a row.
type link[T any] struct {
	thing         T
	place         int // one that is farther behind has a greater place
	before, after *link[T]
}

// add a thing behind the others.
func (r *row[T]) add(thing T) *link[T] {
	l := &link[T]{thing: thing, place: r.added, before: r.last}
	if r.last == nil {
		r.first = l
	} else {
		r.last.after = l
	}
	r.last = l
	r.added++
	return l
}

// remove a thing, by its link.
func (r *row[T]) remove(l *link[T]) {
	if l.before == nil {
		r.first = l.after
	} else {
		l.before.after = l.after
	}
	if l.after == nil {
		r.last = l.before
	} else {
		l.after.before = l.before
	}
}

// each thing is shown to a function, which may remove it.
func (r *row[T]) each(show func(T)) {
	for l := r.first; l != nil; l = l.after {
		show(l.thing)
	}
}

// empty: does it have none?
func (r *row[T]) empty() bool {
	return r.first == nil
}
