package shake

import (
	"bytes"
	"fmt"
	"reflect"
	"slices"
	"testing"

	"flume/api"
	"flume/chunk"
	"flume/cookie"
	"flume/packet"
)

// The two ends of most tests: here is the one that is looked at, there its peer.
var (
	here  = api.End{Tag: 5, Tsn: 100, Window: 9, Inter: true, Key: "k"}
	there = api.End{Tag: 6, Tsn: 200, Window: 8, Inter: true, Key: "l"}
	peer  = api.Met{Tag: 6, Tsn: 200, Window: 8, Inter: true}
)

const (
	now  = 1000 // the tick of most calls
	mark = 77   // and their mark
)

// stages that there are.
var stages = []api.Stage{
	api.Closed, api.Asking, api.Echoing, api.Open, api.Pending,
	api.Sent, api.Received, api.Finishing, api.Done, api.Failed,
}

func opened(t *testing.T, e api.End) *Part {
	t.Helper()
	p, err := New(e)
	if err != api.OK {
		t.Fatalf("New(%v) = %v", e, err)
	}
	return p
}

// supports is the parameter that says so.
func supports(values ...byte) api.Param {
	if len(values) == 0 {
		values = []byte{64}
	}
	return api.Param{Kind: 32776, Value: values}
}

// initOf an end, as the chapter tells it.
func initOf(e api.End) api.Chunk {
	c := api.Chunk{Kind: api.Init, Tag: e.Tag, Tsn: e.Tsn, Window: e.Window, Out: 1024, In: 1024}
	if e.Inter {
		c.Params = []api.Param{supports()}
	}
	return c
}

// ackOf an end, with a cookie.
func ackOf(e api.End, cookie []byte) api.Chunk {
	c := initOf(e)
	c.Kind = api.InitAck
	c.Params = append([]api.Param{{Kind: 7, Value: cookie}}, c.Params...)
	return c
}

// baked is the cookie that an end makes for the Init of another one.
func baked(e, other api.End, tick uint32) api.Cookie {
	k := api.Cookie{
		Tag: e.Tag, Tsn: e.Tsn, Peer: other.Tag, PeerTsn: other.Tsn, Window: other.Window,
		Out: 1024, In: 1024, Made: tick,
	}
	if e.Inter && other.Inter {
		k.Features = 1
	}
	return k
}

// echoOf a cookie, with the key of an end.
func echoOf(e api.End, k api.Cookie) api.Chunk {
	return api.Chunk{Kind: api.CookieEcho, Body: cookie.Make([]byte(e.Key), k)}
}

// plainly: a chunk that is no more than its kind.
func plainly(kind api.ChunkKind) api.Chunk {
	return api.Chunk{Kind: kind}
}

// itsCookie is what the peer gives: nobody but the peer can read it.
var itsCookie = []byte("a cookie")

// at a stage: a part that has come there in the shortest way.
func at(t *testing.T, s api.Stage) *Part {
	t.Helper()
	return after(t, here, map[api.Stage]string{
		api.Closed:    "",
		api.Asking:    "connect",
		api.Echoing:   "connect initack",
		api.Open:      "connect initack cookieack",
		api.Pending:   "connect initack cookieack shut",
		api.Sent:      "connect initack cookieack shut idle",
		api.Received:  "connect initack cookieack shutdown",
		api.Finishing: "connect initack cookieack shutdown idle",
		api.Done:      "connect initack cookieack shutdown idle shutdowndone",
		api.Failed:    "connect initack break",
	}[s], s)
}

// after calls, by their names: a part that has come to a stage.
func after(t *testing.T, e api.End, names string, want api.Stage) *Part {
	t.Helper()
	p := opened(t, e)
	for _, name := range bytes.Fields([]byte(names)) {
		call(t, p, string(name))
	}
	if p.Stage() != want {
		t.Fatalf("after %s: stage %d, want %d", names, p.Stage(), want)
	}
	return p
}

// call upon a part, by a name: what it answers.
func call(t *testing.T, p *Part, name string) []api.Note {
	t.Helper()
	own := p.end.Tag
	switch name {
	case "connect":
		return p.Connect()
	case "again":
		return p.Again(mark)
	case "shut":
		p.Shut()
		return nil
	case "idle":
		return p.Idle(mark)
	case "break":
		return p.Break()
	case "init":
		return p.Hear(0, initOf(there), now)
	case "initack":
		return p.Hear(own, ackOf(there, itsCookie), now)
	case "cookieecho":
		return p.Hear(own, echoOf(p.end, baked(p.end, there, now)), now)
	case "cookieack":
		return p.Hear(own, plainly(api.CookieAck), now)
	case "shutdown":
		return p.Hear(own, plainly(api.Shutdown), now)
	case "shutdownack":
		return p.Hear(own, plainly(api.ShutdownAck), now)
	case "shutdowndone":
		return p.Hear(own, plainly(api.ShutdownDone), now)
	case "abort":
		return p.Hear(own, plainly(api.Abort), now)
	}
	t.Fatalf("no call %q", name)
	return nil
}

// note of a chunk, alone.
func note(tag uint32, c api.Chunk) []api.Note {
	return []api.Note{{Tag: tag, Chunk: c}}
}

// sends: are these the notes?
func sends(t *testing.T, got, want []api.Note) {
	t.Helper()
	if fmt.Sprint(got) != fmt.Sprint(want) {
		t.Errorf("sent %v, want %v", got, want)
	}
}

// is a part at a stage, and knows that of the peer?
func is(t *testing.T, p *Part, s api.Stage, m api.Met) {
	t.Helper()
	for range 2 {
		if p.Stage() != s || p.Met() != m {
			t.Errorf("stage %d, %v, want %d, %v", p.Stage(), p.Met(), s, m)
		}
	}
}

// ignores: does a call send nothing, and leave all as it was?
func ignores(t *testing.T, p *Part, name string, call func() []api.Note) {
	t.Helper()
	before := *p
	before.cookie = slices.Clone(p.cookie)
	if got := call(); len(got) != 0 {
		t.Errorf("stage %d: %s sent %v", before.stage, name, got)
	}
	if !reflect.DeepEqual(before, *p) {
		t.Errorf("stage %d: %s changed %v to %v", before.stage, name, before, *p)
	}
}

// ignoresChunk, with that tag.
func ignoresChunk(t *testing.T, p *Part, tag uint32, c api.Chunk) {
	t.Helper()
	ignores(t, p, fmt.Sprint("hearing ", c, " with the tag ", tag), func() []api.Note { return p.Hear(tag, c, now) })
}

// The chapter's example, and how it is shut.

func TestExample(t *testing.T) {
	for _, inter := range []bool{false, true} {
		e := there
		e.Inter = inter
		a, b := opened(t, here), opened(t, e)
		n := a.Connect()
		sends(t, n, note(0, initOf(here)))
		is(t, a, api.Asking, api.Met{})
		n = b.Hear(0, n[0].Chunk, now)
		baking := baked(e, here, now)
		sends(t, n, note(5, ackOf(e, cookie.Make([]byte("l"), baking))))
		is(t, b, api.Closed, api.Met{})
		n = a.Hear(5, n[0].Chunk, now)
		sends(t, n, note(6, echoOf(e, baking)))
		known := peer
		known.Inter = inter
		is(t, a, api.Echoing, known)
		n = b.Hear(6, n[0].Chunk, now)
		sends(t, n, note(5, plainly(api.CookieAck)))
		met := api.Met{Tag: 5, Tsn: 100, Window: 9, Inter: inter}
		is(t, b, api.Open, met)
		sends(t, a.Hear(5, n[0].Chunk, now), nil)
		is(t, a, api.Open, known)

		if !a.Shut() {
			t.Errorf("Shut = false")
		}
		is(t, a, api.Pending, known)
		sends(t, b.Idle(3), nil)
		n = a.Idle(7)
		sends(t, n, note(6, api.Chunk{Kind: api.Shutdown, Tsn: 7}))
		is(t, a, api.Sent, known)
		sends(t, b.Hear(6, n[0].Chunk, now), nil)
		is(t, b, api.Received, met)
		n = b.Idle(3)
		sends(t, n, note(5, plainly(api.ShutdownAck)))
		is(t, b, api.Finishing, met)
		n = a.Hear(5, n[0].Chunk, now)
		sends(t, n, note(6, plainly(api.ShutdownDone)))
		is(t, a, api.Done, known)
		sends(t, b.Hear(6, n[0].Chunk, now), nil)
		is(t, b, api.Done, met)
	}
}

// P19.1: New

func TestNew(t *testing.T) {
	for _, e := range []api.End{{}, {Tsn: 1, Window: 2, Inter: true, Key: "k"}} {
		if p, err := New(e); p != nil || err != api.ErrArg {
			t.Errorf("New(%v) = %v, %v", e, p, err)
		}
	}
	for _, e := range []api.End{{Tag: 1}, {Tag: 1<<32 - 1, Tsn: 1<<32 - 1, Window: 1<<32 - 1, Inter: true, Key: "k"}, {Tag: 1 << 31}, here} {
		p := opened(t, e)
		is(t, p, api.Closed, api.Met{})
		sends(t, p.Connect(), note(0, initOf(e)))
	}
}

// P19.1: the table

// step of the table: where a call leads to from a stage, and what is sent.
type step struct {
	to   api.Stage
	sent []api.Note
}

// steps of the chapter's table, by stage and call, with the right tags; in all other cases nothing happens.
func steps() map[api.Stage]map[string]step {
	asks := note(0, initOf(here))
	echoes := note(6, api.Chunk{Kind: api.CookieEcho, Body: itsCookie})
	answers := note(6, ackOf(here, cookie.Make([]byte("k"), baked(here, there, now))))
	acks := note(6, plainly(api.CookieAck))
	shuts := note(6, api.Chunk{Kind: api.Shutdown, Tsn: mark})
	finishes := note(6, plainly(api.ShutdownAck))
	ends := note(6, plainly(api.ShutdownDone))
	aborts := note(6, plainly(api.Abort))
	return map[api.Stage]map[string]step{
		api.Closed: {"connect": {api.Asking, asks}, "init": {api.Closed, answers}, "cookieecho": {api.Open, acks}},
		api.Asking: {
			"again": {api.Asking, asks}, "init": {api.Asking, answers}, "initack": {api.Echoing, echoes},
			"cookieecho": {api.Open, acks}, "abort": {api.Failed, nil}, "break": {api.Failed, nil},
		},
		api.Echoing: {
			"again": {api.Echoing, echoes}, "init": {api.Echoing, answers}, "cookieecho": {api.Open, acks},
			"cookieack": {api.Open, nil}, "abort": {api.Failed, nil}, "break": {api.Failed, aborts},
		},
		api.Open: {
			"cookieecho": {api.Open, acks}, "shut": {api.Pending, nil}, "shutdown": {api.Received, nil},
			"abort": {api.Failed, nil}, "break": {api.Failed, aborts},
		},
		api.Pending: {
			"cookieecho": {api.Pending, acks}, "idle": {api.Sent, shuts}, "shutdown": {api.Received, nil},
			"abort": {api.Failed, nil}, "break": {api.Failed, aborts},
		},
		api.Sent: {
			"cookieecho": {api.Sent, acks}, "again": {api.Sent, shuts}, "shutdown": {api.Finishing, finishes},
			"shutdownack": {api.Done, ends}, "abort": {api.Failed, nil}, "break": {api.Failed, aborts},
		},
		api.Received: {
			"cookieecho": {api.Received, acks}, "idle": {api.Finishing, finishes},
			"abort": {api.Failed, nil}, "break": {api.Failed, aborts},
		},
		api.Finishing: {
			"cookieecho": {api.Finishing, acks}, "again": {api.Finishing, finishes}, "shutdownack": {api.Done, ends},
			"shutdowndone": {api.Done, nil}, "abort": {api.Failed, nil}, "break": {api.Failed, aborts},
		},
		api.Done: {"shutdownack": {api.Done, ends}},
	}
}

var calls = []string{
	"connect", "again", "shut", "idle", "break", "init", "initack", "cookieecho",
	"cookieack", "shutdown", "shutdownack", "shutdowndone", "abort",
}

func TestTable(t *testing.T) {
	all := steps()
	for _, s := range stages {
		for _, name := range calls {
			p := at(t, s)
			x, ok := all[s][name]
			if !ok {
				ignores(t, p, name, func() []api.Note { return call(t, p, name) })
				continue
			}
			met := p.Met()
			if name == "cookieecho" || name == "initack" {
				met = peer
			}
			sends(t, call(t, p, name), x.sent)
			is(t, p, x.to, met)
			if t.Failed() {
				t.Fatalf("stage %d, %s", s, name)
			}
		}
	}
}

// The other ways to a stage lead to the same one.
func TestOtherWays(t *testing.T) {
	for _, x := range []struct {
		names string
		same  api.Stage
	}{
		{"cookieecho", api.Open},
		{"init connect init again initack again init cookieecho", api.Open},
		{"connect cookieecho shutdown", api.Received},
		{"cookieecho shut shutdown", api.Received},
		{"cookieecho shut idle shutdown", api.Finishing},
		{"cookieecho shut idle shutdownack", api.Done},
		{"cookieecho shut idle shutdown shutdownack", api.Done},
		{"cookieecho shutdown idle shutdownack", api.Done},
		{"cookieecho abort", api.Failed},
	} {
		p := after(t, here, x.names, x.same)
		want := at(t, x.same)
		if !reflect.DeepEqual(p, want) {
			t.Errorf("after %s: %v, want %v", x.names, *p, *want)
		}
	}
}

// Shut tells whether anything came of it.
func TestShut(t *testing.T) {
	for _, s := range stages {
		p := at(t, s)
		if p.Shut() != (s == api.Open) {
			t.Errorf("stage %d: Shut = %v", s, s != api.Open)
		}
		if p.Shut() {
			t.Errorf("stage %d: the second Shut = true", s)
		}
	}
}

// P19.1: tries

func TestTries(t *testing.T) {
	for _, s := range []api.Stage{api.Asking, api.Echoing, api.Sent, api.Finishing} {
		p := at(t, s)
		met, want := p.Met(), steps()[s]["again"].sent
		for range 8 {
			sends(t, p.Again(mark), want)
			is(t, p, s, met)
		}
		sends(t, p.Again(mark), nil)
		is(t, p, api.Failed, met)
		sends(t, p.Again(mark), nil)
		is(t, p, api.Failed, met)
	}
	if api.MaxTries != 8 {
		t.Errorf("MaxTries is %d", api.MaxTries)
	}
}

// Each stage has its own tries, and what is heard or asked for in vain doesn't give more of them.
func TestTriesStartAnew(t *testing.T) {
	p := opened(t, here)
	use := func(want api.Stage, vain ...string) {
		t.Helper()
		for range 8 {
			if n := p.Again(mark); len(n) != 1 || p.Stage() != want {
				t.Fatalf("stage %d, sent %v, want %d", p.Stage(), n, want)
			}
			for _, name := range vain {
				call(t, p, name)
			}
		}
	}
	call(t, p, "connect")
	use(api.Asking, "init", "connect", "cookieack", "shut", "idle", "shutdown", "shutdowndone")
	call(t, p, "initack")
	use(api.Echoing, "init", "initack", "connect", "shut", "idle", "shutdown", "shutdownack")
	call(t, p, "cookieack")
	for range 20 {
		sends(t, p.Again(mark), nil)
	}
	call(t, p, "shut")
	for range 20 {
		sends(t, p.Again(mark), nil)
	}
	call(t, p, "idle")
	use(api.Sent, "cookieecho", "idle", "shut", "shutdowndone", "cookieack")
	call(t, p, "shutdown")
	use(api.Finishing, "cookieecho", "shutdown", "idle", "shut", "initack")
	sends(t, p.Again(mark), nil)
	is(t, p, api.Failed, peer)
}

// Each time it is the mark of that time that a Shutdown has.
func TestMarks(t *testing.T) {
	for _, m := range []uint32{0, 1, 1 << 31, 1<<32 - 1} {
		p := at(t, api.Pending)
		sends(t, p.Idle(m), note(6, api.Chunk{Kind: api.Shutdown, Tsn: m}))
		sends(t, p.Again(m+1), note(6, api.Chunk{Kind: api.Shutdown, Tsn: m + 1}))
		sends(t, p.Again(m), note(6, api.Chunk{Kind: api.Shutdown, Tsn: m}))
	}
}

// The mark that comes with a Shutdown has no meaning here.
func TestShutdownMarks(t *testing.T) {
	for _, m := range []uint32{0, 99, 1 << 31, 1<<32 - 1} {
		p := at(t, api.Open)
		sends(t, p.Hear(5, api.Chunk{Kind: api.Shutdown, Tsn: m}, now), nil)
		is(t, p, api.Received, peer)
	}
}

// P19.1: tags

// otherTags than the own one, and than a given one.
func otherTags(right uint32) []uint32 {
	var tags []uint32
	for _, tag := range []uint32{0, 1, 4, 5, 6, 7, 5 << 8, 5 << 24, 1 << 31, 1<<31 + 5, 1<<32 - 1} {
		if tag != right {
			tags = append(tags, tag)
		}
	}
	return tags
}

// With another tag a chunk does nothing; a ShutdownAck is answered when all is done, whatever its tag.
func TestOtherTags(t *testing.T) {
	for _, s := range stages {
		p := at(t, s)
		for _, c := range []api.Chunk{
			ackOf(there, itsCookie), echoOf(here, baked(here, there, now)), plainly(api.CookieAck),
			plainly(api.Shutdown), plainly(api.ShutdownDone), plainly(api.Abort), plainly(api.ShutdownAck),
			{Kind: api.ShutdownDone, Bare: true},
		} {
			for _, tag := range otherTags(5) {
				if c.Kind == api.ShutdownAck && s == api.Done {
					sends(t, p.Hear(tag, c, now), note(6, plainly(api.ShutdownDone)))
					is(t, p, api.Done, peer)
					continue
				}
				ignoresChunk(t, p, tag, c)
			}
		}
		for _, tag := range otherTags(0) {
			ignoresChunk(t, p, tag, initOf(there))
		}
	}
}

// A Bare Abort may have the known tag, if there is one; one with the own tag may be Bare or not.
func TestBareAborts(t *testing.T) {
	for _, s := range stages {
		over := s == api.Closed || s == api.Done || s == api.Failed
		for _, tag := range []uint32{0, 1, 5, 6, 7, 1<<32 - 1} {
			for _, bare := range []bool{false, true} {
				p := at(t, s)
				met := p.Met()
				c := api.Chunk{Kind: api.Abort, Bare: bare, Params: []api.Param{{Kind: 1, Value: []byte("why")}}}
				known := tag == 6 && met == peer
				if over || tag != 5 && !(bare && known) {
					ignoresChunk(t, p, tag, c)
					continue
				}
				sends(t, p.Hear(tag, c, now), nil)
				is(t, p, api.Failed, met)
			}
		}
	}
}

// A ShutdownDone may be Bare, if its tag is right.
func TestBareDone(t *testing.T) {
	p := at(t, api.Finishing)
	ignoresChunk(t, p, 6, api.Chunk{Kind: api.ShutdownDone, Bare: true})
	sends(t, p.Hear(5, api.Chunk{Kind: api.ShutdownDone, Bare: true}, now), nil)
	is(t, p, api.Done, peer)
}

// Chunks of all other kinds do nothing.
func TestOtherKinds(t *testing.T) {
	heard := []api.ChunkKind{
		api.Init, api.InitAck, api.CookieEcho, api.CookieAck, api.Abort, api.Shutdown, api.ShutdownAck, api.ShutdownDone,
	}
	for _, s := range stages {
		p := at(t, s)
		for kind := range 256 {
			if slices.Contains(heard, api.ChunkKind(kind)) {
				continue
			}
			for _, c := range []api.Chunk{
				{}, {Bare: true, Tsn: 9}, initOf(there), ackOf(there, itsCookie), echoOf(here, baked(here, there, now)),
			} {
				c.Kind = api.ChunkKind(kind)
				for _, tag := range []uint32{0, 5, 6} {
					ignoresChunk(t, p, tag, c)
				}
			}
		}
	}
}

// P19.1: an Init

// It is answered with a cookie, and nothing is kept.
func TestInit(t *testing.T) {
	for _, s := range []api.Stage{api.Closed, api.Asking, api.Echoing} {
		for _, inter := range []bool{false, true} {
			for _, e := range []api.End{
				{Tag: 1}, {Tag: 1, Inter: true}, {Tag: 1<<32 - 1, Tsn: 1<<32 - 1, Window: 1<<32 - 1, Inter: true}, here, there,
			} {
				p := at(t, s)
				p.end.Inter = inter
				before, end := *p, here
				end.Inter = inter
				want := ackOf(end, cookie.Make([]byte("k"), baked(end, e, now)))
				sends(t, p.Hear(0, initOf(e), now), note(e.Tag, want))
				if !reflect.DeepEqual(before, *p) {
					t.Errorf("an Init changed %v to %v", before, *p)
				}
			}
		}
	}
}

// Each field of the Init is in its place of the cookie, and the tick's lower half.
func TestCookie(t *testing.T) {
	c := api.Chunk{
		Kind: api.Init, Tag: 0x01020304, Tsn: 0x05060708, Window: 0x090A0B0C, Out: 0x0D0E, In: 0x0F10,
		Params: []api.Param{supports()},
		Begin:  true, Bare: true, Mid: 3, Body: []byte("x"), // fields that an Init does not have
	}
	for _, tick := range []uint64{0, 1, 1<<32 - 1, 1 << 32, 1<<32 + 7, 1<<64 - 1} {
		n := opened(t, here).Hear(0, c, tick)
		if len(n) != 1 || n[0].Tag != c.Tag || len(n[0].Chunk.Params) != 2 || n[0].Chunk.Params[0].Kind != 7 {
			t.Fatalf("sent %v", n)
		}
		want := api.Cookie{
			Tag: 5, Peer: c.Tag, Tsn: 100, PeerTsn: c.Tsn, Window: c.Window, Out: c.Out, In: c.In,
			Features: 1, Made: uint32(tick),
		}
		got, err := cookie.Open([]byte("k"), n[0].Chunk.Params[0].Value, uint32(tick))
		if got != want || err != api.OK {
			t.Errorf("at %d: %v, %v, want %v", tick, got, err, want)
		}
	}
}

// An Init or an InitAck without a Tag, Out or In is not valid; without a Window or a Tsn it is.
func TestValid(t *testing.T) {
	for _, spoil := range []func(c *api.Chunk){
		func(c *api.Chunk) { c.Tag = 0 },
		func(c *api.Chunk) { c.Out = 0 },
		func(c *api.Chunk) { c.In = 0 },
	} {
		for _, s := range stages {
			p := at(t, s)
			i, a := initOf(there), ackOf(there, itsCookie)
			spoil(&i)
			spoil(&a)
			ignoresChunk(t, p, 0, i)
			ignoresChunk(t, p, 5, a)
		}
	}
	for _, x := range []api.Chunk{{Tag: 1, Out: 1, In: 1}, {Tag: 1 << 31, Out: 1 << 15, In: 1<<16 - 1}} {
		x.Kind = api.Init
		if n := opened(t, here).Hear(0, x, now); len(n) != 1 || n[0].Tag != x.Tag {
			t.Errorf("sent %v", n)
		}
		x.Kind, x.Params = api.InitAck, []api.Param{{Kind: 7, Value: itsCookie}}
		p := at(t, api.Asking)
		sends(t, p.Hear(5, x, now), note(x.Tag, api.Chunk{Kind: api.CookieEcho, Body: itsCookie}))
		is(t, p, api.Echoing, api.Met{Tag: x.Tag})
	}
}

// P19.1: IData

// says: parameters that come in an Init or an InitAck, and whether they say that IData is supported.
func says() []struct {
	ps  []api.Param
	yes bool
} {
	other := api.Param{Kind: 8, Value: []byte{64}}
	return []struct {
		ps  []api.Param
		yes bool
	}{
		{nil, false},
		{[]api.Param{supports()}, true},
		{[]api.Param{other}, false},
		{[]api.Param{other, supports(), other}, true},
		{[]api.Param{{Kind: 32776}}, false},
		{[]api.Param{supports(64, 64)}, false},
		{[]api.Param{supports(64, 0)}, false},
		{[]api.Param{supports(0, 64)}, false},
		{[]api.Param{supports(63)}, false},
		{[]api.Param{supports(192)}, false},
		{[]api.Param{supports(), supports(1)}, true},
		{[]api.Param{supports(1), supports()}, false},
		{[]api.Param{{Kind: 32776}, supports()}, false},
		{[]api.Param{{Kind: 32777, Value: []byte{64}}, {Kind: 8, Value: nil}}, false},
	}
}

func TestInterOfInit(t *testing.T) {
	for _, x := range says() {
		for _, inter := range []bool{false, true} {
			end := here
			end.Inter = inter
			c := initOf(there)
			c.Params = x.ps
			k := baked(end, there, now)
			k.Features = 0
			if inter && x.yes {
				k.Features = 1
			}
			want := ackOf(end, cookie.Make([]byte("k"), k))
			sends(t, opened(t, end).Hear(0, c, now), note(6, want))
		}
	}
}

func TestInterOfInitAck(t *testing.T) {
	for _, x := range says() {
		for _, inter := range []bool{false, true} {
			for _, behind := range []bool{false, true} {
				end := here
				end.Inter = inter
				c := initOf(there)
				c.Kind = api.InitAck
				its := []api.Param{{Kind: 7, Value: itsCookie}}
				if behind {
					c.Params = slices.Concat(x.ps, its)
				} else {
					c.Params = slices.Concat(its, x.ps)
				}
				p := after(t, end, "connect", api.Asking)
				sends(t, p.Hear(5, c, now), note(6, api.Chunk{Kind: api.CookieEcho, Body: itsCookie}))
				is(t, p, api.Echoing, api.Met{Tag: 6, Tsn: 200, Window: 8, Inter: inter && x.yes})
			}
		}
	}
}

// The cookie says whether both do: just the number 1 does.
func TestInterOfCookie(t *testing.T) {
	for f := range 256 {
		k := baked(here, there, now)
		k.Features = uint8(f)
		p := opened(t, here)
		sends(t, p.Hear(5, echoOf(here, k), now), note(6, plainly(api.CookieAck)))
		is(t, p, api.Open, api.Met{Tag: 6, Tsn: 200, Window: 8, Inter: f == 1})
	}
}

// P19.1: an InitAck

// Without a cookie nothing comes of it; the first one counts, whatever its bytes.
func TestInitAckCookies(t *testing.T) {
	p := at(t, api.Asking)
	for _, ps := range [][]api.Param{nil, {supports()}, {{Kind: 8, Value: itsCookie}}, {{Kind: 7 << 8, Value: itsCookie}}} {
		c := ackOf(there, nil)
		c.Params = ps
		ignoresChunk(t, p, 5, c)
	}
	for _, ps := range [][]api.Param{
		{{Kind: 7, Value: itsCookie}},
		{{Kind: 9}, {Kind: 7, Value: itsCookie}, {Kind: 9}},
		{{Kind: 7, Value: itsCookie}, {Kind: 7, Value: []byte("b")}},
		{{Kind: 7, Value: []byte{0}}},
		{{Kind: 7, Value: bytes.Repeat([]byte{255}, 60000)}},
		{{Kind: 7}},
	} {
		p := at(t, api.Asking)
		c := ackOf(there, nil)
		c.Params = ps
		i := slices.IndexFunc(ps, func(x api.Param) bool { return x.Kind == 7 })
		want := note(6, api.Chunk{Kind: api.CookieEcho, Body: ps[i].Value})
		sends(t, p.Hear(5, c, now), want)
		sends(t, p.Again(mark), want)
	}
}

// A second InitAck, of whomever, changes nothing.
func TestInitAckTwice(t *testing.T) {
	p := at(t, api.Echoing)
	ignoresChunk(t, p, 5, ackOf(there, []byte("another")))
	ignoresChunk(t, p, 5, ackOf(api.End{Tag: 66, Tsn: 2, Window: 3}, itsCookie))
	sends(t, p.Again(mark), note(6, api.Chunk{Kind: api.CookieEcho, Body: itsCookie}))
	sends(t, p.Hear(5, plainly(api.CookieAck), now), nil)
	is(t, p, api.Open, peer)
}

// P19.1: a CookieEcho

// A cookie that layer 9 refuses, or that is not an own one, does nothing in any stage.
func TestCookieEchoRefused(t *testing.T) {
	good := baked(here, there, now)
	own := cookie.Make([]byte("k"), good)
	change := func(f func(k *api.Cookie)) []byte {
		k := good
		f(&k)
		return cookie.Make([]byte("k"), k)
	}
	flipped := slices.Clone(own)
	flipped[0] ^= 1
	for _, s := range stages {
		p := at(t, s)
		for _, b := range [][]byte{
			nil, {}, own[:69], append(slices.Clone(own), 0), flipped, make([]byte, 70), itsCookie,
			cookie.Make([]byte("l"), good), cookie.Make(nil, good),
			change(func(k *api.Cookie) { k.Tag = 6 }),
			change(func(k *api.Cookie) { k.Tag = 0 }),
			change(func(k *api.Cookie) { k.Tag += 1 << 31 }),
			change(func(k *api.Cookie) { k.Made = now - 601 }),
			change(func(k *api.Cookie) { k.Made = now + 1 }),
		} {
			ignoresChunk(t, p, 5, api.Chunk{Kind: api.CookieEcho, Body: b})
		}
	}
}

// What the cookie says is stored, whatever it is but the own Tag, and no more than that.
func TestCookieEchoStored(t *testing.T) {
	k := api.Cookie{
		Tag: 5, Peer: 0x01020304, Tsn: 0x11111111, PeerTsn: 0x05060708, Window: 0x090A0B0C, Out: 3, In: 4,
		Features: 1, Made: now, TieTag: 9, TiePeer: 10,
	}
	for _, s := range []api.Stage{api.Closed, api.Asking} {
		p := at(t, s)
		sends(t, p.Hear(5, echoOf(here, k), now), note(k.Peer, plainly(api.CookieAck)))
		is(t, p, api.Open, api.Met{Tag: k.Peer, Tsn: k.PeerTsn, Window: k.Window, Inter: true})
		sends(t, p.Hear(5, echoOf(here, k), now), note(k.Peer, plainly(api.CookieAck)))
	}
}

// From Echoing on, a cookie counts only if it is the known peer's; in Echoing it is then stored, after that it is not.
func TestCookieEchoOfPeer(t *testing.T) {
	for _, s := range stages {
		if s <= api.Asking || s >= api.Done {
			continue
		}
		p := at(t, s)
		k := baked(here, there, now)
		for _, tag := range otherTags(6) {
			k.Peer = tag
			ignoresChunk(t, p, 5, echoOf(here, k))
		}
		k.Peer, k.PeerTsn, k.Window, k.Features = 6, 300, 20, 0
		if s != api.Echoing {
			sends(t, p.Hear(5, echoOf(here, k), now), note(6, plainly(api.CookieAck)))
			is(t, p, s, peer)
			continue
		}
		sends(t, p.Hear(5, echoOf(here, k), now), note(6, plainly(api.CookieAck)))
		is(t, p, api.Open, api.Met{Tag: 6, Tsn: 300, Window: 20})
	}
}

// A cookie holds for 600 ticks, of which the lower half counts.
func TestCookieEchoTicks(t *testing.T) {
	for _, made := range []uint64{0, 1, 1<<32 - 300, 1<<32 - 1, 1 << 32, 1<<40 + 5, 1<<64 - 300} {
		n := opened(t, here).Hear(0, initOf(there), made)
		c := api.Chunk{Kind: api.CookieEcho, Body: n[0].Chunk.Params[0].Value}
		for _, x := range []struct {
			later uint64
			good  bool
		}{{0, true}, {1, true}, {600, true}, {601, false}, {1 << 31, false}, {1<<32 - 1, false}, {1 << 32, true}, {1<<32 + 600, true}, {1<<32 + 601, false}} {
			p := opened(t, here)
			if n := p.Hear(5, c, made+x.later); (len(n) == 1) != x.good || (p.Stage() == api.Open) != x.good {
				t.Errorf("made at %d, %d later: %v", made, x.later, n)
			}
		}
	}
}

// A cookie's Peer 0 is no known tag: it opens, and then nothing is known.
func TestCookieEchoOfNobody(t *testing.T) {
	for _, k := range []api.Cookie{{Tag: 5, Made: now}, {Tag: 5, PeerTsn: 3, Window: 4, Made: now}} {
		p := opened(t, here)
		met := api.Met{Tsn: k.PeerTsn, Window: k.Window}
		sends(t, p.Hear(5, echoOf(here, k), now), note(0, plainly(api.CookieAck)))
		is(t, p, api.Open, met)
		ignoresChunk(t, p, 5, echoOf(here, k))
		ignoresChunk(t, p, 5, echoOf(here, baked(here, there, now)))
		ignoresChunk(t, p, 0, api.Chunk{Kind: api.Abort, Bare: true})
		sends(t, p.Break(), nil)
		is(t, p, api.Failed, met)
	}
}

// Keys of all lengths, and an empty one.
func TestKeys(t *testing.T) {
	for n := range 130 {
		e := here
		e.Key = string(bytes.Repeat([]byte{'x'}, n))
		p := opened(t, e)
		c := p.Hear(0, initOf(there), now)[0].Chunk
		if want := ackOf(e, cookie.Make([]byte(e.Key), baked(e, there, now))); fmt.Sprint(c) != fmt.Sprint(want) {
			t.Errorf("a key of %d bytes: sent %v, want %v", n, c, want)
		}
		other := echoOf(api.End{Key: e.Key + "y"}, baked(e, there, now))
		ignoresChunk(t, p, 5, other)
		sends(t, p.Hear(5, echoOf(e, baked(e, there, now)), now), note(6, plainly(api.CookieAck)))
	}
}

// What is sent can be put into packets and got out of them.
func TestThroughPackets(t *testing.T) {
	for s, row := range steps() {
		for name, x := range row {
			for _, n := range x.sent {
				b, err := packet.Put(api.Packet{From: 5000, To: 5000, Tag: n.Tag, Chunks: []api.Chunk{n.Chunk}})
				got, err2 := packet.Get(b)
				if err != api.OK || err2 != api.OK || fmt.Sprint(got.Chunks[0]) != fmt.Sprint(n.Chunk) {
					t.Errorf("stage %d, %s: %v, %v, %v", s, name, got, err, err2)
				}
			}
		}
	}
	p := at(t, api.Closed)
	b, _ := chunk.Put(p.Hear(0, initOf(there), now)[0].Chunk)
	head := []byte{2, 0, 0, 102, 0, 0, 0, 5, 0, 0, 0, 9, 4, 0, 4, 0, 0, 0, 0, 100, 0, 7, 0, 74}
	if head[3] = byte(len(b)); !bytes.Equal(b[:len(head)], head) || !bytes.Equal(b[len(b)-8:], []byte{128, 8, 0, 5, 64, 0, 0, 0}) {
		t.Errorf("an InitAck: %d", b)
	}
	b, _ = chunk.Put(p.Connect()[0].Chunk)
	if want := []byte{1, 0, 0, 28, 0, 0, 0, 5, 0, 0, 0, 9, 4, 0, 4, 0, 0, 0, 0, 100, 128, 8, 0, 5, 64, 0, 0, 0}; !bytes.Equal(b, want) {
		t.Errorf("an Init: %d", b)
	}
}

// P19.3: memory

// scribble over all memory of notes, with the spare capacity.
func scribble(ns []api.Note) {
	ns = ns[:cap(ns)]
	for i := range ns {
		scribbleChunk(ns[i].Chunk)
		ns[i] = api.Note{Tag: 0xEEEE}
	}
}

func scribbleChunk(c api.Chunk) {
	spoil := func(b []byte) {
		for i := range b[:cap(b)] {
			b[:cap(b)][i] = 0xEE
		}
	}
	spoil(c.Body)
	ps := c.Params[:cap(c.Params)]
	for i := range ps {
		spoil(ps[i].Value)
		ps[i] = api.Param{Kind: 0xEEEE}
	}
}

// Results may be written to: nothing that comes later is changed.
func TestResultsAreNewMemory(t *testing.T) {
	for s, row := range steps() {
		for name, x := range row {
			p, q := at(t, s), at(t, s)
			first := call(t, p, name)
			sends(t, first, x.sent)
			scribble(first)
			call(t, q, name)
			if !reflect.DeepEqual(p, q) {
				t.Errorf("stage %d, %s: %v, want %v", s, name, *p, *q)
			}
			for range 3 {
				got := p.Again(mark)
				sends(t, got, q.Again(mark))
				scribble(got)
			}
			for _, later := range calls {
				got := call(t, p, later)
				sends(t, got, call(t, q, later))
				scribble(got)
			}
		}
	}
}

// Two results share nothing.
func TestResultsShareNothing(t *testing.T) {
	for _, x := range []struct {
		s    api.Stage
		name string
	}{
		{api.Closed, "init"}, {api.Asking, "again"}, {api.Asking, "init"}, {api.Echoing, "again"}, {api.Sent, "again"},
		{api.Open, "cookieecho"}, {api.Finishing, "again"}, {api.Done, "shutdownack"},
	} {
		p := at(t, x.s)
		a, b := call(t, p, x.name), call(t, p, x.name)
		want := fmt.Sprint(b)
		scribble(a)
		if fmt.Sprint(b) != want {
			t.Errorf("stage %d, %s: %v, want %v", x.s, x.name, b, want)
		}
	}
}

// Arguments may be written to after a call, and are not changed by it, nor is what lies behind them.
func TestArguments(t *testing.T) {
	roomy := func(b []byte) []byte { return append(slices.Clone(b), 1, 2, 3, 4, 5, 6, 7, 8)[:len(b)] }
	for _, x := range []struct {
		s   api.Stage
		tag uint32
		c   api.Chunk
	}{
		{api.Closed, 0, initOf(there)},
		{api.Asking, 5, ackOf(there, itsCookie)},
		{api.Closed, 5, echoOf(here, baked(here, there, now))},
		{api.Open, 5, api.Chunk{Kind: api.Abort, Params: []api.Param{{Kind: 1, Value: []byte("why")}}}},
	} {
		c, p, q := x.c, at(t, x.s), at(t, x.s)
		c.Body = roomy(c.Body)
		c.Params = append(slices.Clone(c.Params), supports(1), supports(2))[:len(c.Params)]
		for i := range c.Params {
			c.Params[i].Value = roomy(c.Params[i].Value)
		}
		spare := func() string {
			text := fmt.Sprint(c.Body[:cap(c.Body)], c.Params[:cap(c.Params)])
			for _, y := range c.Params {
				text += fmt.Sprint(y.Value[:cap(y.Value)])
			}
			return text
		}
		before := spare()
		got := p.Hear(x.tag, c, now)
		if spare() != before {
			t.Errorf("changed: %s, was %s", spare(), before)
		}
		scribbleChunk(c)
		sends(t, got, q.Hear(x.tag, x.c, now))
		sends(t, p.Again(mark), q.Again(mark))
		if !reflect.DeepEqual(p, q) {
			t.Errorf("stage %d: %v, want %v", x.s, *p, *q)
		}
		after := spare()
		scribble(got)
		if spare() != after {
			t.Errorf("a result shares memory with what was heard: %v", x.c)
		}
	}
}

// Two parts have nothing in common.
func TestPartsAreApart(t *testing.T) {
	a, b := opened(t, here), opened(t, here)
	call(t, a, "connect")
	call(t, a, "initack")
	is(t, b, api.Closed, api.Met{})
	call(t, b, "cookieecho")
	is(t, a, api.Echoing, peer)
	sends(t, a.Again(mark), note(6, api.Chunk{Kind: api.CookieEcho, Body: itsCookie}))
	sends(t, b.Again(mark), nil)
}
