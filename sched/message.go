package sched

import (
	"flume/api"
	"flume/frag"
)

// stream that has messages.
type stream struct {
	bytes    int
	messages row[*message]
	turn     *link[*stream]
}

// message of which something is left.
type message struct {
	id    int
	limit api.Limit
	rest  api.Message // the Body is what was not cut off yet
	cut   uint32      // how many fragments were cut off

	stream   *stream
	inStream *link[*message]
	inNumber *link[*message]
}

// fragment that comes next, with at most so many bytes.
func (m *message) fragment(most int, inter bool) api.Chunk {
	piece := m.rest
	piece.Body = piece.Body[:min(most, len(piece.Body))]
	// Layer 12 takes the piece for a whole message, of which this is the only fragment.
	all, _ := frag.Cut(piece, most, inter)
	c := all[0]
	c.Begin = m.cut == 0
	c.End = len(piece.Body) == len(m.rest.Body)
	if inter {
		c.Frag = m.cut
	}
	return c
}

// ending is the fragment that comes next, but without bytes, and with none after it.
func (m *message) ending(inter bool) api.Chunk {
	c := m.fragment(1, inter)
	c.End, c.Body = true, nil
	return c
}
