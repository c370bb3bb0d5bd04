package reset

import (
	"math/rand"
	"slices"
	"testing"

	"flume/api"
)

// side of a network: an engine, and what was seen there.
type side struct {
	*Engine
	mark     uint32      // up to which it has got all
	last     uint32      // the last Tsn that it gave
	in, done map[int]int // how often each stream was that
	came     []api.Param // what may still come to it, and come again
}

// network of two sides. What was sent once may come at any time, as often as it likes.
type network struct {
	t     *testing.T
	r     *rand.Rand
	sides [2]*side
}

func newNetwork(t *testing.T, r *rand.Rand) *network {
	n := &network{t: t, r: r}
	a, b := uint32(r.Intn(20)-10), r.Uint32()
	tsn, peer := uint32(r.Intn(10)-5), r.Uint32()
	n.sides[0] = &side{Engine: New(a, b), mark: peer, last: tsn, in: map[int]int{}, done: map[int]int{}}
	n.sides[1] = &side{Engine: New(b, a), mark: tsn, last: peer, in: map[int]int{}, done: map[int]int{}}
	return n
}

// deliver a parameter to a side: what comes of it is counted, and its reply is sent.
func (n *network) deliver(to int, p api.Param) {
	n.t.Helper()
	s, other := n.sides[to], n.sides[1-to]
	h, err := s.Hear(p, s.mark)
	if err != api.OK {
		n.t.Errorf("Hear(%v) = %v", p, err)
	}
	for _, x := range h.In {
		s.in[int(x)]++
	}
	for _, x := range h.Done {
		s.done[int(x)]++
	}
	if h.All {
		n.t.Errorf("all streams begin anew")
	}
	if h.Reply != nil {
		other.came = append(other.came, *h.Reply)
	}
	n.counts(s, other)
	n.counts(other, s)
}

// counts: what is done at one side was In at the other exactly once; what was In there and is not done yet is asked for.
func (n *network) counts(s, other *side) {
	n.t.Helper()
	for x := range 8 {
		ahead := other.in[x] - s.done[x]
		if ahead < 0 || ahead > 1 || ahead == 1 && !s.asks(uint16(x)) {
			n.t.Errorf("stream %d: %d times done, %d times In", x, s.done[x], other.in[x])
		}
	}
}

// sometime: something of chance happens.
func (n *network) sometime() {
	n.t.Helper()
	i := n.r.Intn(2)
	s, other := n.sides[i], n.sides[1-i]
	switch n.r.Intn(8) {
	case 0:
		s.Want(uint16(n.r.Intn(8)), uint16(n.r.Intn(8)))
	case 1:
		if p, ok := s.Open(s.last, []uint16{uint16(n.r.Intn(8)), uint16(n.r.Intn(8))}); ok {
			other.came = append(other.came, p)
		}
	case 2:
		if p, ok := s.Again(); ok {
			other.came = append(other.came, p)
		}
	case 3:
		s.last += uint32(n.r.Intn(3))
	case 4:
		s.mark += uint32(n.r.Intn(int(other.last-s.mark) + 1))
	default:
		if len(s.came) > 0 {
			n.deliver(i, s.came[n.r.Intn(len(s.came))])
		}
	}
}

// finish: nothing is lost any more, and all that is wanted is done.
func (n *network) finish() {
	n.t.Helper()
	every := []uint16{0, 1, 2, 3, 4, 5, 6, 7}
	for range 3 {
		for i, s := range n.sides {
			other := n.sides[1-i]
			other.mark = s.last
			p, ok := s.Open(s.last, every)
			if !ok {
				p, ok = s.Again()
			}
			if !ok {
				continue
			}
			n.deliver(1-i, p)
			n.deliver(i, s.came[len(s.came)-1])
		}
	}
	for i, s := range n.sides {
		noneOpen(n.t, s.Engine)
		wants(n.t, s.Engine)
		for x := range 8 {
			if in := n.sides[1-i].in[x]; in != s.done[x] {
				n.t.Errorf("stream %d: %d times done, %d times In", x, s.done[x], in)
			}
		}
	}
}

// P18.3: two engines, whose requests and responses are lost, doubled and late.
func TestNetwork(t *testing.T) {
	r := rand.New(rand.NewSource(183))
	total := 0
	for run := range 300 {
		n := newNetwork(t, r)
		for i := range 600 {
			n.sometime()
			if i%60 == 59 { // the more there is, the less often the right one comes
				for _, s := range n.sides {
					r.Shuffle(len(s.came), func(i, j int) { s.came[i], s.came[j] = s.came[j], s.came[i] })
					s.came = slices.Clone(s.came[:min(len(s.came), 12)])
				}
			}
		}
		n.finish()
		for _, s := range n.sides {
			for _, times := range s.done {
				total += times
			}
		}
		if t.Failed() {
			t.Fatalf("run %d", run)
		}
	}
	if total < 5000 {
		t.Errorf("only %d streams are done", total)
	}
}
