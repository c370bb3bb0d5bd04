package flight

import (
	"slices"

	"flume/api"
	"flume/serial"
)

// state of a fragment.
type state int

const (
	inFlight state = iota
	lost
	arrived
	abandoned
)

// fragment that has a number.
type fragment struct {
	message int
	limit   api.Limit
	sent    uint64 // how often
	when    uint32 // it was last sent
	missed  int    // how often, since then
	state   state
	chunk   api.Chunk // of what is not left any more: its rest
}

// left: may it be sent again, or still arrive?
func (p *fragment) left() bool {
	return p.state == inFlight || p.state == lost
}

// spent: was it sent as often as its limit has it?
func (p *fragment) spent() bool {
	return p.limit.Kind == api.Times && p.sent > uint64(p.limit.N)
}

// late: is its limit passed?
func (p *fragment) late(now uint32) bool {
	return p.limit.Kind == api.Until && serial.Less(p.limit.N, now)
}

// rest of a chunk that is never sent again: what Point tells of it.
func rest(c api.Chunk) api.Chunk {
	return api.Chunk{Stream: c.Stream, Loose: c.Loose, Mid: c.Mid}
}

// clone of a chunk, which shares no memory with it.
func clone(c api.Chunk) api.Chunk {
	c.Gaps = slices.Clone(c.Gaps)
	c.Dups = slices.Clone(c.Dups)
	c.Skips = slices.Clone(c.Skips)
	c.Params = slices.Clone(c.Params)
	for i, p := range c.Params {
		c.Params[i].Value = slices.Clone(p.Value)
	}
	c.Body = slices.Clone(c.Body)
	return c
}
