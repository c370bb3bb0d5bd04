package join

import (
	"bytes"

	"flume/api"
	"flume/serial"
)

// line of fragments by their indices, which go round: for IData their Frags, for Data their Tsns.
type line map[uint32]fragment

// fragment of a message that is not complete.
type fragment struct {
	begin, end bool
	part       api.Message // the Body is the fragment's alone
}

// follows: are the fragments i and i + 1 there, and in one message?
func (l line) follows(i uint32) bool {
	a, first := l[i]
	b, second := l[i+1]
	return first && second && !a.end && !b.begin && together(a.part, b.part)
}

// together: do parts have the numbers of one message?
func together(a, b api.Message) bool {
	return a.Stream == b.Stream && a.Loose == b.Loose && (a.Loose || a.Mid == b.Mid)
}

// whole: where the message of the fragment i begins and ends, if all of it is there.
func (l line) whole(i uint32) (first, last uint32, ok bool) {
	first, last = i, i
	// Both ways are gone by turns, so that the nearer gap ends the search: fragments that come in order, or backwards,
	// are not walked over again with each of them.
	for !l[first].begin || !l[last].end {
		if !l[first].begin {
			if !l.follows(first - 1) {
				return 0, 0, false
			}
			first--
		}
		if !l[last].end {
			if !l.follows(last) {
				return 0, 0, false
			}
			last++
		}
	}
	return first, last, true
}

// cut a message out of the line.
func (l line) cut(first, last uint32) api.Message {
	m := l[first].part
	var bodies [][]byte
	for n := range serial.Dist(first, last) + 1 {
		i := first + n
		bodies = append(bodies, l[i].part.Body)
		delete(l, i)
	}
	m.Body = bytes.Join(bodies, nil)
	return m
}

// drop the fragments for which a rule holds, and tell how many bytes they had.
func (l line) drop(rule func(index uint32, part api.Message) bool) int {
	count := 0
	for i, f := range l {
		if rule(i, f.part) {
			count += len(f.part.Body)
			delete(l, i)
		}
	}
	return count
}
