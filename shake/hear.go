package shake

import (
	"flume/api"
	"flume/cookie"
)

// Hear a chunk.
func (p *Part) Hear(tag uint32, c api.Chunk, now uint64) []api.Note {
	own := tag == p.end.Tag
	switch c.Kind {
	case api.Init:
		if tag == 0 {
			return p.hearInit(c, uint32(now))
		}
	case api.Abort:
		if own || c.Bare && p.knows(tag) {
			p.fail()
		}
	case api.ShutdownAck:
		return p.hearShutdownAck(own)
	default:
		if own {
			return p.hearOwn(c, uint32(now))
		}
	}
	return nil
}

// hearOwn: a chunk of a kind that counts with the own tag only.
func (p *Part) hearOwn(c api.Chunk, now uint32) []api.Note {
	switch c.Kind {
	case api.InitAck:
		return p.hearInitAck(c)
	case api.CookieEcho:
		return p.hearCookieEcho(c.Body, now)
	case api.CookieAck:
		if p.stage == api.Echoing {
			p.enter(api.Open)
		}
	case api.Shutdown:
		return p.hearShutdown()
	case api.ShutdownDone:
		if p.stage == api.Finishing {
			p.enter(api.Done)
		}
	}
	return nil
}

// hearInit: all that is to be known of it later goes into the cookie, and nothing is kept.
func (p *Part) hearInit(c api.Chunk, now uint32) []api.Note {
	switch p.stage {
	case api.Closed, api.Asking, api.Echoing:
		if valid(c) {
			return to(c.Tag, p.opening(api.InitAck, p.cookieParam(c, now)))
		}
	}
	return nil
}

// hearInitAck: its cookie is sent back.
func (p *Part) hearInitAck(c api.Chunk) []api.Note {
	echo, ok := cookieOf(c)
	if p.stage != api.Asking || !valid(c) || !ok {
		return nil
	}
	p.enter(api.Echoing)
	p.met = api.Met{Tag: c.Tag, Tsn: c.Tsn, Window: c.Window, Inter: p.bothInter(c)}
	p.cookie = echo
	return p.message(0)
}

// hearCookieEcho: if the cookie is an own one, that opens the association, or did so already.
func (p *Part) hearCookieEcho(echo []byte, now uint32) []api.Note {
	k, err := cookie.Open([]byte(p.end.Key), echo, now)
	if err != api.OK || k.Tag != p.end.Tag {
		return nil
	}
	switch p.stage {
	case api.Closed, api.Asking, api.Echoing:
		// Ahead of an InitAck nothing is stored, and whoever brings a cookie is the peer; after it, only who sent it.
		if p.met != (api.Met{}) && !p.knows(k.Peer) {
			return nil
		}
		p.met = metIn(k)
		p.enter(api.Open)
	case api.Done, api.Failed:
		return nil
	default:
		if !p.knows(k.Peer) {
			return nil
		}
	}
	return p.tell(api.Chunk{Kind: api.CookieAck})
}

// hearShutdown: who waits for an answer to its own one has nothing more to send, others may have.
func (p *Part) hearShutdown() []api.Note {
	switch p.stage {
	case api.Open, api.Pending:
		p.enter(api.Received)
	case api.Sent:
		p.enter(api.Finishing)
		return p.message(0)
	}
	return nil
}

// hearShutdownAck: who is done answers it too, as its first answer may have been lost.
func (p *Part) hearShutdownAck(own bool) []api.Note {
	switch p.stage {
	case api.Sent, api.Finishing:
		if !own {
			return nil
		}
		p.enter(api.Done)
		fallthrough
	case api.Done:
		return p.tell(api.Chunk{Kind: api.ShutdownDone})
	}
	return nil
}
