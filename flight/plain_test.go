package flight

import (
	"fmt"
	"math"
	"math/rand"
	"slices"
	"sort"
	"testing"

	"flume/api"
)

// item is a fragment of a plain flight.
type item struct {
	message int
	limit   api.Limit
	sent    int
	when    uint32
	missed  int
	state   string
	chunk   api.Chunk
}

// plain flight: a list of fragments, which each call goes through as the chapter says it.
type plain struct {
	mark  uint32
	items []*item
	told  map[int]bool // false: it is to be told
}

func (p *plain) next() uint32 {
	return p.mark + 1 + uint32(len(p.items))
}

func (p *plain) send(m int, l api.Limit, c api.Chunk, now uint32) api.Chunk {
	c.Tsn = p.next()
	p.items = append(p.items, &item{message: m, limit: l, sent: 1, when: now, state: "in flight", chunk: c})
	return c
}

func (p *plain) void(m int, c api.Chunk) uint32 {
	p.items = append(p.items, &item{message: m, state: "abandoned", chunk: c})
	return p.next() - 1
}

func (p *plain) bad(s api.Chunk) bool {
	on := int(s.Tsn - p.mark)
	if s.Kind != api.Sack || on > len(p.items) {
		return true
	}
	for i, g := range s.Gaps {
		if g.From < 2 || i > 0 && int(g.From) <= int(s.Gaps[i-1].To)+1 || g.To < g.From || on+int(g.To) > len(p.items) {
			return true
		}
	}
	return false
}

func (p *plain) ack(s api.Chunk, now uint32) api.Acked {
	a := api.Acked{Rtt: -1, Bad: p.bad(s)}
	if a.Bad {
		return a
	}
	on := int(s.Tsn - p.mark)
	greatest := -1
	for i, it := range p.items {
		has := i < on
		for _, g := range s.Gaps {
			has = has || i+1 >= on+int(g.From) && i+1 <= on+int(g.To)
		}
		if !has || it.state == "arrived" {
			continue
		}
		greatest = i
		if it.state == "in flight" || it.state == "lost" {
			a.Bytes += len(it.chunk.Body)
		}
		if it.state != "abandoned" && it.sent == 1 {
			a.Rtt = int(now - it.when)
		}
		it.state = "arrived"
	}
	for i, it := range p.items {
		if i < greatest && it.state == "in flight" {
			it.missed++
			if it.missed == 3 {
				it.state, a.Lost = "lost", true
			}
		}
	}
	a.On = s.Tsn != p.mark
	p.mark, p.items = s.Tsn, p.items[on:]
	return a
}

func (p *plain) late() int {
	n := 0
	for _, it := range p.items {
		if it.state == "in flight" {
			it.state = "lost"
			n++
		}
	}
	return n
}

func (p *plain) abandon(m int) {
	p.told[m] = false
	for _, it := range p.items {
		if it.message == m && it.state != "arrived" {
			it.state = "abandoned"
		}
	}
}

func (p *plain) again(now uint32) (api.Chunk, bool) {
	for _, it := range p.items {
		switch {
		case it.state != "lost":
		case it.limit.Kind == api.Times && it.sent+1 >= int(it.limit.N)+2:
			p.abandon(it.message)
		default:
			it.state, it.missed, it.when = "in flight", 0, now
			it.sent++
			return it.chunk, true
		}
	}
	return api.Chunk{}, false
}

func (p *plain) expire(now uint32) []int {
	for _, it := range p.items {
		d := now - it.limit.N
		if (it.state == "in flight" || it.state == "lost") && it.limit.Kind == api.Until && d >= 1 && d < 1<<31 {
			p.abandon(it.message)
		}
	}
	var out []int
	for m, told := range p.told {
		if !told {
			out = append(out, m)
		}
	}
	p.told = map[int]bool{}
	sort.Ints(out)
	return out
}

func (p *plain) point(inter bool) (api.Chunk, bool) {
	c := api.Chunk{Kind: api.Forward, Tsn: p.mark}
	if inter {
		c.Kind = api.IForward
	}
	for _, it := range p.items {
		if it.state != "abandoned" {
			break
		}
		c.Tsn++
		if it.chunk.Loose && !inter {
			continue
		}
		i := slices.IndexFunc(c.Skips, func(s api.Skip) bool { return s.Stream == it.chunk.Stream && s.Loose == it.chunk.Loose })
		if i < 0 {
			c.Skips = append(c.Skips, api.Skip{Stream: it.chunk.Stream, Loose: it.chunk.Loose, Mid: it.chunk.Mid})
		} else if d := it.chunk.Mid - c.Skips[i].Mid; d < 1<<31 {
			c.Skips[i].Mid = it.chunk.Mid
		}
	}
	if c.Tsn == p.mark {
		return api.Chunk{}, false
	}
	rank := func(s api.Skip) int {
		if s.Loose {
			return int(s.Stream)*2 + 1
		}
		return int(s.Stream) * 2
	}
	slices.SortFunc(c.Skips, func(a, b api.Skip) int { return rank(a) - rank(b) })
	return c, true
}

func (p *plain) counts() (bytes, left int) {
	for _, it := range p.items {
		switch it.state {
		case "in flight":
			bytes += len(it.chunk.Body)
			left++
		case "lost":
			left++
		}
	}
	return bytes, left
}

// both flights, side by side, with a clock.
type both struct {
	r   *rand.Rand
	f   *Flight
	p   *plain
	now uint32
}

func (b *both) limit() api.Limit {
	switch b.r.Intn(6) {
	case 0, 1:
		return times(uint32(b.r.Intn(3)))
	case 2, 3:
		return until(b.now + uint32(b.r.Intn(40)))
	case 4:
		return api.Limit{Kind: api.LimitKind(b.r.Intn(5) - 1), N: b.r.Uint32()}
	}
	return always
}

func (b *both) chunk() api.Chunk {
	c := piece(uint16(b.r.Intn(4)), uint32(b.r.Intn(20)), "")
	if b.r.Intn(4) == 0 {
		c.Mid = b.r.Uint32()
	}
	c.Loose, c.Frag, c.Tsn = b.r.Intn(3) == 0, b.r.Uint32(), b.r.Uint32()
	c.Body = make([]byte, b.r.Intn(50))
	b.r.Read(c.Body)
	return c
}

// message that is near the last ones, in most cases.
func (b *both) message(step int) int {
	if b.r.Intn(10) == 0 {
		return b.r.Intn(20) - 10
	}
	return step/4 + b.r.Intn(3)
}

// sack that may be bad.
func (b *both) sack() api.Chunk {
	on := 0
	if b.r.Intn(3) == 0 {
		on = b.r.Intn(min(len(b.p.items), 8) + 1)
	}
	s := sack(b.p.mark + uint32(on))
	for end := 0; b.r.Intn(3) > 0; {
		from := end + 2 + b.r.Intn(4)
		end = from + b.r.Intn(5)
		if end+on > len(b.p.items) && b.r.Intn(20) > 0 {
			break
		}
		s.Gaps = append(s.Gaps, gap(uint16(from), uint16(end)))
	}
	switch b.r.Intn(30) {
	case 0:
		s.Kind = api.ChunkKind(b.r.Intn(256))
	case 1:
		s.Tsn = b.r.Uint32()
	case 2:
		s.Tsn = b.p.mark - uint32(b.r.Intn(3))
	case 3:
		s.Tsn = b.p.next() - 2 + uint32(b.r.Intn(4))
	case 4:
		if len(s.Gaps) > 0 {
			g := &s.Gaps[b.r.Intn(len(s.Gaps))]
			g.From, g.To = g.From-uint16(b.r.Intn(4)), g.To-uint16(b.r.Intn(4))
		}
	}
	return s
}

// step makes one call upon both, and tells both answers.
func (b *both) step(i int) (got, want string) {
	b.now += uint32(b.r.Intn(3))
	now := b.now
	if b.r.Intn(40) == 0 {
		now = b.r.Uint32()
	}
	switch b.r.Intn(12) {
	case 0, 1, 2, 3:
		m, l, c := b.message(i), b.limit(), b.chunk()
		return fmt.Sprint(b.f.Send(m, l, c, now)), fmt.Sprint(b.p.send(m, l, c, now))
	case 4:
		m, c := b.message(i), b.chunk()
		return fmt.Sprint(b.f.Void(m, c)), fmt.Sprint(b.p.void(m, c))
	case 5, 6, 7:
		s := b.sack()
		return fmt.Sprint(s, b.f.Ack(s, now)), fmt.Sprint(s, b.p.ack(s, now))
	case 8:
		if b.r.Intn(4) == 0 {
			return fmt.Sprint("late ", b.f.Late()), fmt.Sprint("late ", b.p.late())
		}
	case 9, 10:
		c, ok := b.f.Again(now)
		d, ok2 := b.p.again(now)
		return fmt.Sprint(c, ok), fmt.Sprint(d, ok2)
	case 11:
		return fmt.Sprint(b.f.Expire(now)), fmt.Sprint(b.p.expire(now))
	}
	return "", ""
}

// tell what both say of themselves.
func (b *both) tell() (got, want string) {
	bytes, left := b.p.counts()
	got = fmt.Sprint(b.f.Mark(), b.f.Next(), b.f.Bytes(), b.f.Left())
	want = fmt.Sprint(b.p.mark, b.p.next(), bytes, left)
	if b.r.Intn(2) == 0 { // what Point was asked must not matter
		return got, want
	}
	inter := b.r.Intn(2) == 0
	c, ok := b.f.Point(inter)
	d, ok2 := b.p.point(inter)
	return got + fmt.Sprint(c, ok), want + fmt.Sprint(d, ok2)
}

// Calls of chance, held against the chapter's words worked out anew.
func TestAgainstPlain(t *testing.T) {
	for seed := range int64(600) {
		r := rand.New(rand.NewSource(seed))
		first := r.Uint32()
		if seed%3 == 0 {
			first = math.MaxUint32 - uint32(r.Intn(100))
		}
		b := &both{r: r, f: New(first), p: &plain{mark: first - 1, told: map[int]bool{}}, now: r.Uint32()}
		if seed%4 == 0 {
			b.now = math.MaxUint32 - uint32(r.Intn(100))
		}
		for i := range 300 {
			if got, want := b.step(i); got != want {
				t.Fatalf("seed %d, step %d: %s, want %s", seed, i, got, want)
			}
			if got, want := b.tell(); got != want {
				t.Fatalf("seed %d, step %d: %s, want %s", seed, i, got, want)
			}
		}
	}
}

// Over a pipe that loses and mixes, all that has no limit arrives, and nothing is left.
func TestThroughThePipe(t *testing.T) {
	for seed := range int64(50) {
		r := rand.New(rand.NewSource(seed))
		first := math.MaxUint32 - uint32(r.Intn(300))
		f := New(first)
		come := map[uint32]bool{}
		limits := map[uint32]api.Limit{}
		mark, now := first-1, uint32(0)
		carry := func(c api.Chunk) {
			if r.Intn(3) > 0 {
				come[c.Tsn] = true
			}
		}
		for round := 0; round < 300 || f.Left() > 0; round++ {
			if round > 3000 {
				t.Fatalf("seed %d: %d are left", seed, f.Left())
			}
			now++
			if round < 300 {
				l := []api.Limit{always, times(0), until(now + 5)}[r.Intn(3)]
				c := f.Send(round, l, piece(1, uint32(round), "body"), now)
				limits[c.Tsn] = l
				carry(c)
			}
			f.Expire(now)
			if p, ok := f.Point(true); ok && r.Intn(3) > 0 {
				for mark != p.Tsn && int32(p.Tsn-mark) > 0 {
					mark++
				}
			}
			for come[mark+1] {
				mark++
			}
			if r.Intn(3) > 0 {
				f.Ack(heard(come, mark, f.Next()-1), now)
			}
			if r.Intn(20) == 0 {
				f.Late()
			}
			for {
				c, ok := f.Again(now)
				if !ok {
					break
				}
				carry(c)
			}
		}
		has(t, f, f.Mark(), first+300, 0, 0)
		for tsn, l := range limits {
			if l == always && !come[tsn] {
				t.Errorf("seed %d: %d has not come", seed, tsn)
			}
		}
	}
}

// heard is a Sack of what has come.
func heard(come map[uint32]bool, mark, last uint32) api.Chunk {
	s := sack(mark)
	for d := uint32(2); d <= last-mark && len(s.Gaps) < 32; d++ {
		from := d
		for d <= last-mark && come[mark+d] {
			d++
		}
		if d > from {
			s.Gaps = append(s.Gaps, gap(uint16(from), uint16(d-1)))
		}
	}
	return s
}
