package shake

import (
	"bytes"
	"fmt"
	"math/rand"
	"slices"
	"testing"

	"flume/api"
	"flume/cookie"
)

// plain part: the rows of the chapter's table, gone through one by one.
type plain struct {
	e     api.End
	stage api.Stage
	met   api.Met
	echo  []byte
	tries int
}

// input of a plain part: a call, or a chunk that is heard.
type input struct {
	name string // of a call; of a chunk "hear"
	tag  uint32
	c    api.Chunk
	tick uint64
	mark uint32
}

// row of the table: the stages, the input, what must hold, the next stage (-1: the same), and what is sent.
type row struct {
	from  []api.Stage
	name  string
	kind  api.ChunkKind
	holds bool
	to    api.Stage
	do    func() []api.Note
}

const same = api.Stage(-1)

// saysInter: is the first parameter of the kind just the byte 64?
func saysInter(ps []api.Param) bool {
	for _, x := range ps {
		if x.Kind == 32776 {
			return bytes.Equal(x.Value, []byte{64})
		}
	}
	return false
}

// rows of the table, for one input.
func (p *plain) rows(in input) []row {
	c := in.c
	own := in.tag == p.e.Tag
	isValid := c.Tag != 0 && c.Out != 0 && c.In != 0
	both := p.e.Inter && saysInter(c.Params)
	its := slices.IndexFunc(c.Params, func(x api.Param) bool { return x.Kind == 7 })
	k, err := cookie.Open([]byte(p.e.Key), c.Body, uint32(in.tick))
	opens := own && err == api.OK && k.Tag == p.e.Tag
	known := p.met.Tag != 0
	last := p.tries == 8
	tell := func(c api.Chunk) func() []api.Note {
		return func() []api.Note { return note(p.met.Tag, c) }
	}
	again := func(f func() []api.Note) func() []api.Note {
		return func() []api.Note { p.tries++; return f() }
	}
	nothing := func() []api.Note { return nil }
	asks := func() []api.Note { return note(0, initOf(p.e)) }
	echoes := func() []api.Note { return note(p.met.Tag, api.Chunk{Kind: api.CookieEcho, Body: p.echo}) }
	stores := func() []api.Note {
		p.met = api.Met{Tag: k.Peer, Tsn: k.PeerTsn, Window: k.Window, Inter: k.Features == 1}
		return note(p.met.Tag, plainly(api.CookieAck))
	}
	shuts := tell(api.Chunk{Kind: api.Shutdown, Tsn: in.mark})
	finishes, ends := tell(plainly(api.ShutdownAck)), tell(plainly(api.ShutdownDone))
	aborts := nothing
	if known {
		aborts = tell(plainly(api.Abort))
	}
	list := func(s ...api.Stage) []api.Stage { return s }
	early := list(api.Closed, api.Asking, api.Echoing)
	middle := list(api.Open, api.Pending, api.Sent, api.Received, api.Finishing)
	most := append(list(api.Asking, api.Echoing), middle...)
	return []row{
		{list(api.Closed), "connect", 0, true, api.Asking, asks},
		{list(api.Asking), "again", 0, !last, same, again(asks)},
		{list(api.Echoing), "again", 0, !last, same, again(echoes)},
		{list(api.Asking, api.Echoing), "again", 0, last, api.Failed, nothing},
		{early, "hear", api.Init, in.tag == 0 && isValid, same, func() []api.Note { return p.answer(c, both, in.tick) }},
		{list(api.Asking), "hear", api.InitAck, own && isValid && its >= 0, api.Echoing, func() []api.Note {
			p.met = api.Met{Tag: c.Tag, Tsn: c.Tsn, Window: c.Window, Inter: both}
			p.echo = slices.Clone(c.Params[its].Value)
			return echoes()
		}},
		{list(api.Closed, api.Asking), "hear", api.CookieEcho, opens, api.Open, stores},
		{list(api.Echoing), "hear", api.CookieEcho, opens && k.Peer == p.met.Tag, api.Open, stores},
		{middle, "hear", api.CookieEcho, opens && known && k.Peer == p.met.Tag, same, tell(plainly(api.CookieAck))},
		{list(api.Echoing), "hear", api.CookieAck, own, api.Open, nothing},
		{list(api.Open), "shut", 0, true, api.Pending, nothing},
		{list(api.Pending), "idle", 0, true, api.Sent, shuts},
		{list(api.Received), "idle", 0, true, api.Finishing, finishes},
		{list(api.Open, api.Pending), "hear", api.Shutdown, own, api.Received, nothing},
		{list(api.Sent), "hear", api.Shutdown, own, api.Finishing, finishes},
		{list(api.Sent), "again", 0, !last, same, again(shuts)},
		{list(api.Finishing), "again", 0, !last, same, again(finishes)},
		{list(api.Sent, api.Finishing), "again", 0, last, api.Failed, nothing},
		{list(api.Sent, api.Finishing), "hear", api.ShutdownAck, own, api.Done, ends},
		{list(api.Finishing), "hear", api.ShutdownDone, own, api.Done, nothing},
		{most, "hear", api.Abort, own || c.Bare && known && in.tag == p.met.Tag, api.Failed, nothing},
		{most, "break", 0, true, api.Failed, aborts},
		{list(api.Done), "hear", api.ShutdownAck, true, same, ends},
	}
}

// answer to an Init.
func (p *plain) answer(c api.Chunk, both bool, tick uint64) []api.Note {
	k := api.Cookie{
		Tag: p.e.Tag, Peer: c.Tag, Tsn: p.e.Tsn, PeerTsn: c.Tsn, Window: c.Window,
		Out: c.Out, In: c.In, Made: uint32(tick),
	}
	if both {
		k.Features = 1
	}
	return note(c.Tag, ackOf(p.e, cookie.Make([]byte(p.e.Key), k)))
}

// take an input: the row that it is told in is done; did one?
func (p *plain) take(in input) ([]api.Note, bool) {
	for _, r := range p.rows(in) {
		if !slices.Contains(r.from, p.stage) || r.name != in.name || r.name == "hear" && r.kind != in.c.Kind || !r.holds {
			continue
		}
		if r.to != same {
			p.stage, p.tries = r.to, 0
		}
		return r.do(), true
	}
	return nil, false
}

// give an input to a part: what it sends, and what Shut answers.
func give(p *Part, in input) ([]api.Note, bool) {
	switch in.name {
	case "connect":
		return p.Connect(), false
	case "again":
		return p.Again(in.mark), false
	case "shut":
		return nil, p.Shut()
	case "idle":
		return p.Idle(in.mark), false
	case "break":
		return p.Break(), false
	}
	return p.Hear(in.tag, in.c, in.tick), false
}

// pick one of some.
func pick[T any](r *rand.Rand, xs ...T) T {
	return xs[r.Intn(len(xs))]
}

// someChunk of chance, of the kinds that are heard and some others; with cookies that a part's key opens, or not.
func someChunk(r *rand.Rand, e api.End, tick uint64) api.Chunk {
	c := api.Chunk{
		Kind: pick(r, api.Init, api.InitAck, api.CookieEcho, api.CookieEcho, api.CookieAck, api.Abort, api.Shutdown,
			api.ShutdownAck, api.ShutdownDone, api.Data, api.Sack, api.Beat, 200),
		Bare: r.Intn(2) == 0, Tag: pick[uint32](r, 6, 6, 6, 6, 7, 0), Tsn: r.Uint32(), Window: r.Uint32(),
		Out: pick[uint16](r, 1024, 1024, 1, 1, 65535, 0), In: pick[uint16](r, 1024, 1024, 1, 1, 65535, 0),
	}
	for range r.Intn(4) {
		c.Params = append(c.Params, pick(r, supports(), supports(), supports(1), supports(64, 64),
			api.Param{Kind: 7, Value: []byte("cookie")}, api.Param{Kind: 7, Value: []byte("another")}, api.Param{Kind: 8}))
	}
	k := api.Cookie{
		Tag: pick(r, e.Tag, e.Tag, e.Tag, e.Tag, 6), Peer: pick[uint32](r, 6, 6, 6, 6, 7, 0), Tsn: r.Uint32(),
		PeerTsn: r.Uint32(), Window: r.Uint32(), Features: pick[uint8](r, 0, 1, 1, 2),
		Made: uint32(tick) - pick[uint32](r, 0, 1, 599, 600, 601, 1<<32-1),
	}
	c.Body = cookie.Make([]byte(pick(r, e.Key, e.Key, e.Key, e.Key, "other")), k)
	if r.Intn(20) == 0 {
		c.Body = c.Body[:r.Intn(70)]
	}
	return c
}

// someInput of chance.
func someInput(r *rand.Rand, e api.End) input {
	in := input{name: "hear", mark: r.Uint32(), tick: pick(r, 0, 5000, 1<<32-1, 1<<32, r.Uint64())}
	if r.Intn(3) == 0 {
		in.name = pick(r, "connect", "again", "again", "again", "again", "again", "shut", "idle")
		if r.Intn(20) == 0 {
			in.name = "break"
		}
		return in
	}
	in.c = someChunk(r, e, in.tick)
	in.tag = pick(r, e.Tag, e.Tag, e.Tag, e.Tag, 6, 7, 0)
	if in.c.Kind == api.Init && r.Intn(4) > 0 {
		in.tag = 0
	}
	if in.c.Kind == api.Abort && r.Intn(10) > 0 {
		in.tag = 8
	}
	return in
}

// P19.1: runs of inputs, held against the chapter's table.
func TestRuns(t *testing.T) {
	r := rand.New(rand.NewSource(19))
	seen, none := map[string]int{}, 0
	for run := range 4000 {
		e := api.End{Tag: pick[uint32](r, 5, 5, 1<<32-1), Tsn: r.Uint32(), Window: r.Uint32(), Inter: r.Intn(2) == 0, Key: pick(r, "", "k")}
		p, m := opened(t, e), &plain{e: e}
		for range 60 {
			in := someInput(r, e)
			from := m.stage
			want, done := m.take(in)
			got, shut := give(p, in)
			if fmt.Sprint(got) != fmt.Sprint(want) || shut != (in.name == "shut" && done) {
				t.Errorf("stage %d, %v: %v, %v, want %v", from, in, got, shut, want)
			}
			is(t, p, m.stage, m.met)
			if t.Failed() {
				t.Fatalf("run %d", run)
			}
			if !done {
				none++
				continue
			}
			seen[fmt.Sprint(from, in.name, in.c.Kind, m.stage)]++
		}
	}
	// 46: with the last tries apart, so many pairs of a stage and an input does the table have.
	if len(seen) != 46 || none < 100000 {
		t.Errorf("seen %d: %v; nothing happened %d times", len(seen), seen, none)
	}
}
