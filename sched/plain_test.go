package sched

import (
	"math/rand"
	"slices"
	"testing"

	"flume/api"
)

// item is a message of a plain queue.
type item struct {
	id    int
	limit api.Limit
	m     api.Message // the Body is what is left
	cut   int
}

// plain queue: one list of messages, in the order in which they were pushed, and one of streams, in that of their turns.
// Each call goes through them as the chapter says it.
type plain struct {
	inter bool
	items []*item
	turns []uint16
	mids  map[uint16][2]uint32 // of the ordered, and of the loose ones
}

func (p *plain) bytes(meant func(*item) bool) int {
	n := 0
	for _, it := range p.items {
		if meant(it) {
			n += len(it.m.Body)
		}
	}
	return n
}

func (p *plain) all() int {
	return p.bytes(func(*item) bool { return true })
}

func (p *plain) stream(stream uint16) int {
	return p.bytes(func(it *item) bool { return it.m.Stream == stream })
}

func (p *plain) push(id int, l api.Limit, m api.Message) api.Errno {
	if len(m.Body) == 0 {
		return 42
	}
	if len(m.Body) > 65536 {
		return 43
	}
	if p.all()+len(m.Body) > 262144 {
		return 170
	}
	m.Body = slices.Clone(m.Body)
	p.items = append(p.items, &item{id: id, limit: l, m: m})
	p.tidy()
	return 0
}

// tidy the turns: the streams that have no messages leave, and those that are new come behind the others.
func (p *plain) tidy() {
	p.turns = slices.DeleteFunc(p.turns, func(s uint16) bool { return p.stream(s) == 0 })
	for _, it := range p.items {
		if !slices.Contains(p.turns, it.m.Stream) {
			p.turns = append(p.turns, it.m.Stream)
		}
	}
}

// behind the others comes the stream whose turn it is.
func (p *plain) behind() {
	p.turns = append(p.turns[1:], p.turns[0])
}

// first message of a stream.
func (p *plain) first(stream uint16) *item {
	for _, it := range p.items {
		if it.m.Stream == stream {
			return it
		}
	}
	return nil
}

// chunk with a message's numbers.
func (p *plain) chunk(it *item) api.Chunk {
	c := api.Chunk{Kind: 0, Begin: it.cut == 0, Loose: it.m.Loose, Stream: it.m.Stream, Mid: it.m.Mid % 65536, Ppid: it.m.Ppid}
	if p.inter {
		c.Kind, c.Mid, c.Frag = 64, it.m.Mid, uint32(it.cut)
	}
	return c
}

func (p *plain) next(most int) (api.Chunk, int, api.Limit, bool) {
	room := 1172
	if p.inter {
		room = 1168
	}
	if len(p.items) == 0 || most < 1 || most > room {
		return api.Chunk{}, 0, api.Limit{}, false
	}
	it := p.first(p.turns[0])
	if it.cut == 0 {
		it.m.Mid = p.mid(it.m)
	}
	c := p.chunk(it)
	n := min(most, len(it.m.Body))
	c.Body, it.m.Body = slices.Clone(it.m.Body[:n]), it.m.Body[n:]
	c.End = len(it.m.Body) == 0
	it.cut++
	p.items = slices.DeleteFunc(p.items, func(o *item) bool { return len(o.m.Body) == 0 })
	if p.inter || c.End {
		p.behind()
	}
	p.tidy()
	return c, it.id, it.limit, true
}

// mid of a message that is begun.
func (p *plain) mid(m api.Message) uint32 {
	next := p.mids[m.Stream]
	which := 0
	if m.Loose {
		which = 1
	}
	if m.Loose && !p.inter {
		return 0
	}
	mid := next[which]
	next[which]++
	p.mids[m.Stream] = next
	return mid
}

func (p *plain) drop(id int) (int, []api.Chunk) {
	left := p.bytes(func(it *item) bool { return it.id == id })
	var ends []api.Chunk
	over := false
	for i, s := range p.turns {
		for _, it := range p.items {
			if it.id == id && it.m.Stream == s && it.cut > 0 {
				c := p.chunk(it)
				c.End = true
				ends = append(ends, c)
				over = over || i == 0 && !p.inter
			}
		}
	}
	p.items = slices.DeleteFunc(p.items, func(it *item) bool { return it.id == id })
	if over {
		p.behind()
	}
	p.tidy()
	return left, ends
}

func (p *plain) reset(streams ...uint16) {
	if len(streams) == 0 {
		p.mids = map[uint16][2]uint32{}
	}
	for _, s := range streams {
		p.mids[s] = [2]uint32{}
	}
}

// both queues, of which each call is asked.
type both struct {
	t *testing.T
	q *Queue
	p *plain
}

func newBoth(t *testing.T, inter bool) *both {
	return &both{t: t, q: New(inter), p: &plain{inter: inter, mids: map[uint16][2]uint32{}}}
}

func (b *both) push(id int, l api.Limit, m api.Message) {
	b.t.Helper()
	got, want := b.q.Push(id, l, m), b.p.push(id, l, m)
	if got != want {
		b.t.Errorf("Push of %d bytes = %v, want %v", len(m.Body), got, want)
	}
}

func (b *both) next(most int) bool {
	b.t.Helper()
	c, id, l, ok := b.q.Next(most)
	wantC, wantId, wantL, want := b.p.next(most)
	if !sameChunk(c, wantC) || id != wantId || l != wantL || ok != want {
		b.t.Errorf("Next(%d) = %v, %d, %v, %v, want %v, %d, %v, %v", most, c, id, l, ok, wantC, wantId, wantL, want)
	}
	return want
}

func (b *both) drop(id int) {
	b.t.Helper()
	left, ends := b.q.Drop(id)
	wantLeft, wantEnds := b.p.drop(id)
	if left != wantLeft || !slices.EqualFunc(ends, wantEnds, sameChunk) {
		b.t.Errorf("Drop(%d) = %d, %v, want %d, %v", id, left, ends, wantLeft, wantEnds)
	}
}

func (b *both) reset(streams ...uint16) {
	b.q.Reset(streams...)
	b.p.reset(streams...)
}

// count what waits, in all and of these streams.
func (b *both) count(streams ...uint16) {
	b.t.Helper()
	if got, want := b.q.All(), b.p.all(); got != want {
		b.t.Errorf("All = %d, want %d", got, want)
	}
	for _, s := range streams {
		if got, want := b.q.Bytes(s), b.p.stream(s); got != want {
			b.t.Errorf("Bytes(%d) = %d, want %d", s, got, want)
		}
	}
}

// kind of a run: how many streams and numbers there are, how long a message is at most, and how often one is pushed.
type kind struct {
	streams, ids, long, pushes int
}

// sometime: a call of chance.
func (b *both) sometime(r *rand.Rand, k kind) {
	b.t.Helper()
	stream := uint16(r.Intn(k.streams))
	if r.Intn(4) == 0 {
		stream = 65535 - stream
	}
	switch n := r.Intn(20); {
	case n < k.pushes:
		body := make([]byte, r.Intn(k.long+1))
		r.Read(body)
		m := api.Message{Stream: stream, Loose: r.Intn(3) == 0, Mid: r.Uint32(), Ppid: r.Uint32(), Body: body}
		b.push(r.Intn(k.ids)-k.ids/2, api.Limit{Kind: api.LimitKind(r.Intn(3)), N: r.Uint32()}, m)
	case n < 17:
		b.next(1 + r.Intn(1+k.long/(1+r.Intn(4))))
	case n < 18:
		b.next([]int{0, -1, 1168, 1169, 1172, 1173}[r.Intn(6)])
	case n < 19:
		b.drop(r.Intn(k.ids) - k.ids/2)
	case r.Intn(5) == 0:
		b.reset()
	default:
		b.reset(stream, uint16(r.Intn(k.streams)))
	}
	b.count(0, 1, stream, 65535)
}

// P17.1 to P17.3: runs of calls, held against the chapter's words.
func TestRuns(t *testing.T) {
	kinds := []kind{
		{1, 2, 4, 8}, {2, 3, 6, 7}, {3, 40, 5, 9}, {4, 2, 9, 6}, {9, 5, 3, 10}, {30, 12, 4, 11}, {3, 200, 3000, 4}, {5, 7, 1, 12},
	}
	r := rand.New(rand.NewSource(17))
	for run := range 800 {
		k := kinds[run%len(kinds)]
		b := newBoth(t, run/len(kinds)%2 == 0)
		for range 250 {
			b.sometime(r, k)
		}
		for b.next(1 + r.Intn(5)*200) {
			b.count(0, 1)
		}
		b.count(0, 1)
		if t.Failed() {
			t.Fatalf("run %d, of %v", run, k)
		}
	}
}

// P17.1: runs of a queue that is full most of the time.
func TestRunsWhenFull(t *testing.T) {
	r := rand.New(rand.NewSource(170))
	for run := range 20 {
		b := newBoth(t, run%2 == 0)
		for i := range 400 {
			left := 262144 - b.p.all()
			n := []int{65536, 65537, left - 1, left, left + 1, 30000}[r.Intn(6)]
			b.push(i, api.Limit{}, api.Message{Stream: uint16(r.Intn(3)), Body: make([]byte, min(max(n, 0), 65537))})
			for range r.Intn(40) {
				b.next(1100 + r.Intn(75))
			}
			if r.Intn(3) == 0 {
				b.drop(r.Intn(i + 1))
			}
			b.count(0, 1, 2)
		}
		if t.Failed() {
			t.Fatalf("run %d", run)
		}
	}
}
