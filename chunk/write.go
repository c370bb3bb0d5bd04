package chunk

import (
	"flume/api"
	"flume/octet"
	"flume/param"
)

// writer of what comes after a chunk's length.
type writer struct {
	octet.Writer
	long bool // there is more than a chunk can have
}

// length of the chunk, as far as it is written.
func (w *writer) length() int {
	return head + w.Len()
}

// chunk of a known kind.
func (w *writer) chunk(c api.Chunk) {
	switch c.Kind {
	case api.Data, api.IData:
		w.fragment(c)
		fallthrough
	case api.Beat, api.BeatAck, api.CookieEcho:
		w.Put(c.Body)
	case api.Init, api.InitAck:
		w.greeting(c)
		fallthrough
	case api.Abort, api.Fault, api.Config:
		w.params(c.Params)
	case api.Sack:
		w.sack(c)
	case api.Shutdown:
		w.U32(c.Tsn)
	case api.Forward:
		w.forward(c)
	case api.IForward:
		w.forwardWide(c)
	}
}

// fragment of a message, up to its body.
func (w *writer) fragment(c api.Chunk) {
	w.U32(c.Tsn)
	w.U16(c.Stream)
	if c.Kind == api.Data {
		w.U16(uint16(c.Mid))
		w.U32(c.Ppid)
		return
	}
	w.U16(0)
	w.U32(c.Mid)
	if c.Begin {
		w.U32(c.Ppid)
	} else {
		w.U32(c.Frag)
	}
}

// greeting of an endpoint, up to its parameters.
func (w *writer) greeting(c api.Chunk) {
	w.U32(c.Tag)
	w.U32(c.Window)
	w.U16(c.Out)
	w.U16(c.In)
	w.U32(c.Tsn)
}

// params of a chunk.
func (w *writer) params(ps []api.Param) {
	for _, p := range ps {
		b, err := param.Put(p)
		w.Put(b)
		// Values may share memory, and be far longer one behind the other than all of them are now.
		if err != api.OK || w.length() > most {
			w.long = true
			return
		}
	}
}

// sack of the fragments that have arrived.
func (w *writer) sack(c api.Chunk) {
	// Their numbers have two bytes each: lists beyond that are not even written.
	if len(c.Gaps) > most || len(c.Dups) > most {
		w.long = true
		return
	}
	w.U32(c.Tsn)
	w.U32(c.Window)
	w.U16(uint16(len(c.Gaps)))
	w.U16(uint16(len(c.Dups)))
	for _, g := range c.Gaps {
		w.U16(g.From)
		w.U16(g.To)
	}
	for _, t := range c.Dups {
		w.U32(t)
	}
}

// forward past messages that are numbered in sixteen bits.
func (w *writer) forward(c api.Chunk) {
	w.U32(c.Tsn)
	for _, s := range c.Skips {
		w.U16(s.Stream)
		w.U16(uint16(s.Mid))
	}
}

// forwardWide is forward past messages that are numbered in 32 bits.
func (w *writer) forwardWide(c api.Chunk) {
	w.U32(c.Tsn)
	for _, s := range c.Skips {
		w.U16(s.Stream)
		w.U8(0)
		w.U8(flag(s.Loose, 1))
		w.U32(s.Mid)
	}
}

// flags of a chunk.
func flags(c api.Chunk) uint8 {
	switch c.Kind {
	case api.Data, api.IData:
		return flag(c.End, flagEnd) | flag(c.Begin, flagBegin) | flag(c.Loose, flagLoose)
	case api.Abort, api.ShutdownDone:
		return flag(c.Bare, flagBare)
	}
	return 0
}

// flag as a number.
func flag(on bool, number uint8) uint8 {
	if on {
		return number
	}
	return 0
}
