package chunk

import (
	"flume/api"
	"flume/octet"
	"flume/param"
)

// reader of what comes after a chunk's length.
type reader struct {
	*octet.Reader
	wrong bool // there was something that the kind does not have
}

// read what a chunk of a known kind has: was it just that?
func read(c *api.Chunk, bits uint8, contents []byte) bool {
	r := &reader{Reader: octet.NewReader(contents)}
	r.setFlags(c, bits)
	r.chunk(c)
	return r.End() == api.OK && !r.wrong && !lacksBody(*c)
}

// setFlags that the bits tell.
func (r *reader) setFlags(c *api.Chunk, bits uint8) {
	switch c.Kind {
	case api.Data, api.IData:
		c.End, c.Begin, c.Loose = bits&flagEnd != 0, bits&flagBegin != 0, bits&flagLoose != 0
	case api.Abort, api.ShutdownDone:
		c.Bare = bits&flagBare != 0
	}
	// A bit that the chunk did not take is no flag of its kind.
	r.refuse(bits != flags(*c))
}

// chunk of a known kind. Its flags come ahead, as a fragment's form hangs on them.
func (r *reader) chunk(c *api.Chunk) {
	switch c.Kind {
	case api.Data, api.IData:
		r.fragment(c)
		fallthrough
	case api.Beat, api.BeatAck, api.CookieEcho:
		c.Body = r.rest()
	case api.Init, api.InitAck:
		r.greeting(c)
		fallthrough
	case api.Abort, api.Fault, api.Config:
		c.Params = r.params()
	case api.Sack:
		r.sack(c)
	case api.Shutdown:
		c.Tsn = r.U32()
	case api.Forward:
		r.forward(c)
	case api.IForward:
		r.forwardWide(c)
	}
}

// fragment of a message, up to its body.
func (r *reader) fragment(c *api.Chunk) {
	c.Tsn = r.U32()
	c.Stream = r.U16()
	if c.Kind == api.Data {
		c.Mid = uint32(r.U16())
		c.Ppid = r.U32()
		return
	}
	r.refuse(r.U16() != 0)
	c.Mid = r.U32()
	if c.Begin {
		c.Ppid = r.U32()
	} else {
		c.Frag = r.U32()
	}
}

// greeting of an endpoint, up to its parameters.
func (r *reader) greeting(c *api.Chunk) {
	c.Tag = r.U32()
	c.Window = r.U32()
	c.Out = r.U16()
	c.In = r.U16()
	c.Tsn = r.U32()
}

// params of a chunk.
func (r *reader) params() []api.Param {
	ps, err := param.Get(r.rest())
	r.refuse(err != api.OK)
	return ps
}

// sack of the fragments that have arrived.
func (r *reader) sack(c *api.Chunk) {
	c.Tsn = r.U32()
	c.Window = r.U32()
	gaps := int(r.U16())
	dups := int(r.U16())
	// Held against the bytes first: few of them may claim to be many.
	if r.Left() != 4*(gaps+dups) {
		r.wrong = true
		return
	}
	for range gaps {
		c.Gaps = append(c.Gaps, api.Gap{From: r.U16(), To: r.U16()})
	}
	for range dups {
		c.Dups = append(c.Dups, r.U32())
	}
}

// forward past messages that are numbered in sixteen bits.
func (r *reader) forward(c *api.Chunk) {
	c.Tsn = r.U32()
	for r.Left() > 0 {
		c.Skips = append(c.Skips, api.Skip{Stream: r.U16(), Mid: uint32(r.U16())})
	}
}

// forwardWide is forward past messages that are numbered in 32 bits.
func (r *reader) forwardWide(c *api.Chunk) {
	c.Tsn = r.U32()
	for r.Left() > 0 {
		s := api.Skip{Stream: r.U16()}
		loose := r.U16()
		r.refuse(loose > 1)
		s.Loose = loose == 1
		s.Mid = r.U32()
		c.Skips = append(c.Skips, s)
	}
}

// rest of the bytes.
func (r *reader) rest() []byte {
	return r.Take(r.Left())
}

// refuse what was read, if it may not be.
func (r *reader) refuse(bad bool) {
	r.wrong = r.wrong || bad
}
