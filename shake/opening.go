package shake

import (
	"slices"

	"flume/api"
	"flume/cookie"
	"flume/param"
)

// Kinds of the parameters.
const (
	kindCookie  = 7
	kindSupport = 32776
)

// opening is an Init or an InitAck, with the parameters that come first.
func (p *Part) opening(kind api.ChunkKind, first ...api.Param) api.Chunk {
	ps := slices.Clone(first)
	if p.end.Inter {
		ps = append(ps, api.Param{Kind: kindSupport, Value: []byte{byte(api.IData)}})
	}
	return api.Chunk{
		Kind: kind, Tag: p.end.Tag, Tsn: p.end.Tsn, Window: p.end.Window,
		Out: api.MaxStreams, In: api.MaxStreams, Params: ps,
	}
}

// valid: may an Init or an InitAck be answered?
func valid(c api.Chunk) bool {
	return c.Tag != 0 && c.Out != 0 && c.In != 0
}

// bothInter: do the sender of an Init or an InitAck and the part both support IData?
func (p *Part) bothInter(c api.Chunk) bool {
	value, ok := param.Find(c.Params, kindSupport)
	return p.end.Inter && ok && len(value) == 1 && value[0] == byte(api.IData)
}

// cookieOf an InitAck.
func cookieOf(c api.Chunk) ([]byte, bool) {
	return param.Find(c.Params, kindCookie)
}

// cookieParam with a cookie for an Init.
func (p *Part) cookieParam(c api.Chunk, now uint32) api.Param {
	k := api.Cookie{
		Tag: p.end.Tag, Peer: c.Tag, Tsn: p.end.Tsn, PeerTsn: c.Tsn,
		Window: c.Window, Out: c.Out, In: c.In, Made: now,
	}
	if p.bothInter(c) {
		k.Features = 1
	}
	return api.Param{Kind: kindCookie, Value: cookie.Make([]byte(p.end.Key), k)}
}

// metIn a cookie: the peer.
func metIn(k api.Cookie) api.Met {
	return api.Met{Tag: k.Peer, Tsn: k.PeerTsn, Window: k.Window, Inter: k.Features == 1}
}
