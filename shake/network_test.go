package shake

import (
	"math/rand"
	"slices"
	"testing"

	"flume/api"
)

// side of a network: a part, its end, and what may still come to it, and come again.
type side struct {
	*Part
	came []api.Note
}

// network of two sides. What was sent once may come at any time, as often as it likes, or never.
type network struct {
	t     *testing.T
	r     *rand.Rand
	sides [2]*side
	tick  uint64
	most  int // times that something may be sent again
}

func newNetwork(t *testing.T, r *rand.Rand) *network {
	t.Helper()
	n := &network{t: t, r: r, tick: uint64(r.Intn(2000)) + pick[uint64](r, 0, 1<<32-1000), most: 4}
	tags := pick(r, [2]uint32{5, 6}, [2]uint32{1<<32 - 1, 1}, [2]uint32{9, 9})
	for i := range n.sides {
		e := api.End{Tag: tags[i], Tsn: r.Uint32(), Window: r.Uint32(), Inter: r.Intn(3) > 0, Key: pick(r, "k", "l", "")}
		n.sides[i] = &side{Part: opened(t, e)}
	}
	return n
}

// send notes of a side to the other.
func (n *network) send(from int, notes []api.Note) {
	n.sides[1-from].came = append(n.sides[1-from].came, notes...)
}

// hear what came to a side once, at a place.
func (n *network) hear(to, at int) {
	x := n.sides[to].came[at]
	n.send(to, n.sides[to].Hear(x.Tag, x.Chunk, n.tick))
}

// again at a side, but not so often that its tries end.
func (n *network) again(i int, most int) {
	if s := n.sides[i]; s.tries < most {
		n.send(i, s.Again(n.r.Uint32()))
	}
}

// up: is a stage one in which the peer must be known?
func up(s api.Stage) bool {
	return s >= api.Open && s <= api.Done
}

// agree: what each of two knows, once both are open, is what the other is.
func (n *network) agree() {
	n.t.Helper()
	a, b := n.sides[0], n.sides[1]
	if !up(a.Stage()) || !up(b.Stage()) {
		return
	}
	both := a.end.Inter && b.end.Inter
	for _, x := range [][2]*side{{a, b}, {b, a}} {
		want := api.Met{Tag: x[1].end.Tag, Tsn: x[1].end.Tsn, Window: x[1].end.Window, Inter: both}
		if x[0].Met() != want {
			n.t.Errorf("met %v, want %v", x[0].Met(), want)
		}
	}
}

// sometime: something of chance happens.
func (n *network) sometime() {
	n.t.Helper()
	i := n.r.Intn(2)
	s := n.sides[i]
	switch n.r.Intn(8) {
	case 0:
		if n.r.Intn(4) == 0 {
			n.send(i, s.Connect())
		}
	case 1:
		n.again(i, n.most)
	case 2:
		n.tick += uint64(n.r.Intn(3))
	default:
		if len(s.came) > 0 {
			n.hear(i, n.r.Intn(len(s.came)))
		}
	}
	for _, s := range n.sides { // the more there is, the less often the right one comes
		if len(s.came) > 10 {
			n.r.Shuffle(len(s.came), func(i, j int) { s.came[i], s.came[j] = s.came[j], s.came[i] })
			s.came = slices.Clone(s.came[:5])
		}
	}
	n.agree()
}

// calm: from now on nothing is lost, and both ask again.
func (n *network) calm() {
	n.t.Helper()
	for range 4 {
		for i := range n.sides {
			n.again(i, api.MaxTries)
		}
		for range 4 {
			for i, s := range n.sides {
				for range len(s.came) {
					n.hear(i, 0)
					s.came = s.came[1:]
					n.agree()
				}
			}
		}
	}
}

// both at a stage?
func (n *network) both(want api.Stage) {
	n.t.Helper()
	if a, b := n.sides[0].Stage(), n.sides[1].Stage(); a != want || b != want {
		n.t.Errorf("stages %d and %d, want %d", a, b, want)
	}
}

// P19.2: two parts, whose messages are lost, doubled and late; then they are not any more.
func TestNetwork(t *testing.T) {
	r := rand.New(rand.NewSource(192))
	inter, late := 0, 0
	for run := range 3000 {
		n := newNetwork(t, r)
		n.send(0, n.sides[0].Connect())
		for range r.Intn(60) {
			n.sometime()
		}
		if n.sides[0].Stage() != api.Open || n.sides[1].Stage() != api.Open {
			late++
		}
		if r.Intn(2) == 0 { // all that is under way is lost
			n.sides[0].came, n.sides[1].came = nil, nil
		}
		n.calm()
		n.both(api.Open)
		if n.sides[0].Met().Inter {
			inter++
		}
		if t.Failed() {
			t.Fatalf("run %d", run)
		}
	}
	if inter < 500 || inter > 2500 || late < 500 || late > 2500 {
		t.Errorf("IData %d times, not open early %d times", inter, late)
	}
}

// The same while they are shut, by one of them or by both: what they know stays, and both are done in the end.
func TestNetworkShut(t *testing.T) {
	r := rand.New(rand.NewSource(193))
	for run := range 3000 {
		n := newNetwork(t, r)
		n.send(0, n.sides[0].Connect())
		for range r.Intn(60) {
			n.sometime()
			i := r.Intn(2)
			if r.Intn(3) == 0 {
				n.sides[i].Shut()
			}
			if r.Intn(2) == 0 {
				n.send(i, n.sides[i].Idle(r.Uint32()))
			}
			n.agree()
		}
		n.calm()
		n.sides[r.Intn(2)].Shut()
		for range 3 {
			for i, s := range n.sides {
				n.send(i, s.Idle(r.Uint32()))
			}
			n.calm()
		}
		n.both(api.Done)
		if t.Failed() {
			t.Fatalf("run %d", run)
		}
	}
}
