package timer

import (
	"cmp"
	"maps"
	"math"
	"math/rand"
	"slices"
	"testing"
)

const last = math.MaxUint64

// timer is a call of Set.
type timer struct {
	kind int
	at   uint64
}

// plainTable is what the chapter says of a table, word by word: at which tick each kind is due.
type plainTable map[int]uint64

func (p plainTable) due(now uint64) []int {
	kinds := slices.Collect(maps.Keys(p))
	kinds = slices.DeleteFunc(kinds, func(kind int) bool { return p[kind] > now })
	slices.SortFunc(kinds, func(a, b int) int {
		return cmp.Or(cmp.Compare(p[a], p[b]), cmp.Compare(a, b))
	})
	for _, kind := range kinds {
		delete(p, kind)
	}
	return kinds
}

func (p plainTable) stop(kind int) bool {
	_, set := p[kind]
	delete(p, kind)
	return set
}

// next tick, and with none set 0.
func (p plainTable) next() uint64 {
	if len(p) == 0 {
		return 0
	}
	return slices.Min(slices.Collect(maps.Values(p)))
}

// set is a table after some calls of Set.
func set(timers ...timer) *Table {
	x := &Table{}
	for _, s := range timers {
		x.Set(s.kind, s.at)
	}
	return x
}

// isDue: are these the kinds that are due, and none when it is asked anew?
func isDue(t *testing.T, x *Table, now uint64, want ...int) {
	t.Helper()
	if got := x.Due(now); !slices.Equal(got, want) {
		t.Errorf("Due(%d) = %d, want %d", now, got, want)
	}
	if got := x.Due(now); len(got) != 0 {
		t.Errorf("Due(%d) anew = %d, want none", now, got)
	}
}

// has: are these its timers, in the order in which they are due? It is asked twice, as asking changes nothing.
func has(t *testing.T, x *Table, timers ...timer) {
	t.Helper()
	var next uint64
	if len(timers) > 0 {
		next = timers[0].at
	}
	for range 2 {
		if got := x.Len(); got != len(timers) {
			t.Errorf("Len = %d, want %d", got, len(timers))
		}
		if at, ok := x.Next(); at != next || ok != (len(timers) > 0) {
			t.Errorf("Next = %d, %v, want %d, %v", at, ok, next, len(timers) > 0)
		}
		for _, s := range timers {
			if at, ok := x.At(s.kind); at != s.at || !ok {
				t.Errorf("At(%d) = %d, %v, want %d, true", s.kind, at, ok, s.at)
			}
		}
	}
}

// hasNot: is none of these set?
func hasNot(t *testing.T, x *Table, kinds ...int) {
	t.Helper()
	for _, kind := range kinds {
		if at, ok := x.At(kind); at != 0 || ok {
			t.Errorf("At(%d) = %d, %v, want 0, false", kind, at, ok)
		}
	}
}

// stops: does Stop tell that?
func stops(t *testing.T, x *Table, kind int, want bool) {
	t.Helper()
	if got := x.Stop(kind); got != want {
		t.Errorf("Stop(%d) = %v, want %v", kind, got, want)
	}
}

// orders of n things: each one.
func orders(n int) [][]int {
	if n == 0 {
		return [][]int{nil}
	}
	var all [][]int
	for _, shorter := range orders(n - 1) {
		for place := range n {
			all = append(all, slices.Insert(slices.Clone(shorter), place, n-1))
		}
	}
	return all
}

// The chapter's example

func TestExample(t *testing.T) {
	x := set(timer{3, 10}, timer{1, 10}, timer{2, 4})
	if at, ok := x.Next(); at != 4 || !ok {
		t.Errorf("Next = %d, %v", at, ok)
	}
	isDue(t, x, 9, 2)
	isDue(t, x, 10, 1, 3)
	isDue(t, x, 99)
}

// P16.1

func TestZeroValue(t *testing.T) {
	var x Table
	has(t, &x)
	hasNot(t, &x, 0, 1, -1, math.MinInt, math.MaxInt)
	stops(t, &x, 0, false)
	stops(t, &x, 1, false)
	isDue(t, &x, 0)
	isDue(t, &x, last)
	has(t, &x)
}

// Each int is a kind, and each uint64 a tick.
func TestSetAnything(t *testing.T) {
	ticks := []uint64{0, 1, math.MaxInt32, math.MaxUint32, math.MaxUint32 + 1, math.MaxInt64, math.MaxInt64 + 1, last - 1, last}
	for _, kind := range []int{0, 1, 4, -1, -2, math.MinInt32, math.MaxInt32, math.MaxUint32, math.MinInt, math.MaxInt} {
		for _, at := range ticks {
			x := set(timer{kind, at})
			has(t, x, timer{kind, at})
			hasNot(t, x, kind+1, kind-1, -kind-1)
			stops(t, x, kind+1, false)
			has(t, x, timer{kind, at})
			stops(t, x, kind, true)
			stops(t, x, kind, false)
			has(t, x)
			hasNot(t, x, kind)
			isDue(t, x, last)
		}
	}
}

// One that is set again, to what is later, earlier or the same, is due then alone.
func TestSetAgain(t *testing.T) {
	for _, at := range []uint64{0, 1, 9, 10, 11, 14, 15, 16, 19, 20, 21, 29, 30, 31, last} {
		for kind := range 3 {
			x := set(timer{0, 10}, timer{1, 20}, timer{2, 30})
			p := plainTable{0: 10, 1: 20, 2: 30}
			x.Set(kind, at)
			p[kind] = at
			if x.Len() != 3 {
				t.Errorf("Len = %d", x.Len())
			}
			for k, want := range p {
				if got, ok := x.At(k); got != want || !ok {
					t.Errorf("Set(%d, %d): At(%d) = %d, %v", kind, at, k, got, ok)
				}
			}
			for _, now := range []uint64{10, 20, 30, last} {
				if got, ok := x.Next(); got != p.next() || ok != (len(p) > 0) {
					t.Errorf("Set(%d, %d): Next = %d, %v, want %d", kind, at, got, ok, p.next())
				}
				isDue(t, x, now, p.due(now)...)
			}
		}
	}
}

func TestSetAgainOften(t *testing.T) {
	x := set(timer{7, 50})
	for at := range uint64(100) {
		x.Set(3, at)
		x.Set(3, 99-at)
		x.Set(3, at)
	}
	has(t, x, timer{7, 50}, timer{3, 99})
	isDue(t, x, 98, 7)
	isDue(t, x, 99, 3)
	has(t, x)
}

// What was stopped, or was due, is gone, and may be set anew.
func TestSetAnew(t *testing.T) {
	x := set(timer{1, 10}, timer{2, 20})
	stops(t, x, 1, true)
	has(t, x, timer{2, 20})
	hasNot(t, x, 1)
	isDue(t, x, 19)
	x.Set(1, 30)
	has(t, x, timer{2, 20}, timer{1, 30})
	isDue(t, x, 20, 2)
	hasNot(t, x, 2)
	stops(t, x, 2, false)
	x.Set(2, 5) // a tick that is past is one, too
	has(t, x, timer{2, 5}, timer{1, 30})
	isDue(t, x, 30, 2, 1)
	has(t, x)
	hasNot(t, x, 1, 2)
	x.Set(1, 30)
	has(t, x, timer{1, 30})
}

// Each set of timers, in each order, of which each one is stopped: the others are due as before.
func TestStopEach(t *testing.T) {
	for _, order := range orders(6) {
		for stopped := range order {
			var x Table
			p := plainTable{}
			for i, kind := range order {
				at := uint64(i*i%5) + 10 // some are equal
				x.Set(kind, at)
				p[kind] = at
			}
			stops(t, &x, stopped, p.stop(stopped))
			hasNot(t, &x, stopped)
			if x.Len() != 5 {
				t.Errorf("Len = %d", x.Len())
			}
			for kind, at := range p {
				if got, ok := x.At(kind); got != at || !ok {
					t.Errorf("%v without %d: At(%d) = %d, %v", order, stopped, kind, got, ok)
				}
			}
			for now := uint64(9); now < 16; now++ {
				if got, ok := x.Next(); got != p.next() || ok != (len(p) > 0) {
					t.Errorf("%v without %d: Next = %d, %v, want %d", order, stopped, got, ok, p.next())
				}
				isDue(t, &x, now, p.due(now)...)
			}
		}
	}
}

// Of a larger table, each one is stopped, and another one is set to each place in the order.
func TestStopAndSetInLarger(t *testing.T) {
	const n = 40
	for kind := range n {
		for at := range uint64(n) {
			x, p := Table{}, plainTable{}
			for i := range n {
				tick := uint64(i * 17 % n)
				x.Set(i, tick)
				p[i] = tick
			}
			other := (kind + 13) % n
			stops(t, &x, kind, p.stop(kind))
			x.Set(other, at)
			p[other] = at
			isDue(t, &x, n/2, p.due(n/2)...)
			isDue(t, &x, last, p.due(last)...)
		}
	}
}

// P16.2

func TestDueAtItsEdges(t *testing.T) {
	for _, at := range []uint64{1, 2, 10, math.MaxUint32, math.MaxUint32 + 1, 1 << 63, last - 1} {
		x := set(timer{4, at})
		isDue(t, x, 0)
		isDue(t, x, at-1)
		has(t, x, timer{4, at})
		isDue(t, x, at, 4)
		has(t, x)
		x.Set(4, at)
		isDue(t, x, at+1, 4)
		x.Set(4, at)
		isDue(t, x, last, 4)
	}
	x := set(timer{4, 0})
	has(t, x, timer{4, 0})
	isDue(t, x, 0, 4)
	x.Set(4, last)
	isDue(t, x, last-1)
	has(t, x, timer{4, last})
	isDue(t, x, last, 4)
}

// Ticks do not go round: the last one is far after the first, and a greater one is never before a less one.
func TestTicksDoNotGoRound(t *testing.T) {
	x := set(timer{1, last}, timer{2, 0}, timer{3, 1 << 63}, timer{4, 1<<63 - 1}, timer{5, 1 << 32}, timer{6, 1<<32 - 1})
	has(t, x, timer{2, 0}, timer{6, 1<<32 - 1}, timer{5, 1 << 32}, timer{4, 1<<63 - 1}, timer{3, 1 << 63}, timer{1, last})
	isDue(t, x, 0, 2)
	isDue(t, x, 1<<32-1, 6)
	isDue(t, x, 1<<63-1, 5, 4)
	isDue(t, x, last-1, 3)
	has(t, x, timer{1, last})
	isDue(t, x, last, 1)
}

// The earliest first, whatever its kind; of those with one tick, the least kind first: also below zero.
func TestDueInOrder(t *testing.T) {
	kinds := []int{math.MinInt, -300, -2, 0, 5, math.MaxInt}
	for _, order := range orders(6) {
		var x Table
		for _, i := range order {
			x.Set(kinds[i], 7)
		}
		isDue(t, &x, 7, kinds...)
		for _, i := range order {
			x.Set(kinds[i], uint64(100-i))
		}
		isDue(t, &x, 100, math.MaxInt, 5, 0, -2, -300, math.MinInt)
		for _, i := range order {
			x.Set(kinds[i], uint64(10+i/2))
		}
		isDue(t, &x, 11, kinds[:4]...)
		isDue(t, &x, 12, kinds[4:]...)
		for _, i := range order {
			x.Set(kinds[i], uint64(12-i/2))
		}
		isDue(t, &x, 12, 5, math.MaxInt, -2, 0, math.MinInt, -300)
	}
}

// It counts when a timer is due, not when it was set, nor to what it was set before.
func TestDueAfterSetAgain(t *testing.T) {
	x := set(timer{1, 10}, timer{2, 20}, timer{3, 30})
	x.Set(3, 10)
	x.Set(1, 20)
	isDue(t, x, 9)
	isDue(t, x, 10, 3)
	isDue(t, x, 20, 1, 2)
	x = set(timer{1, 10}, timer{2, 10}, timer{3, 10})
	x.Set(2, 10)
	x.Set(1, 10)
	isDue(t, x, 10, 1, 2, 3)
}

// A call may ask of an earlier tick than one before it: the table has no clock.
func TestDueOfEarlierTick(t *testing.T) {
	x := set(timer{1, 10}, timer{2, 20})
	isDue(t, x, 15, 1)
	x.Set(3, 12)
	isDue(t, x, 11)
	has(t, x, timer{3, 12}, timer{2, 20})
	isDue(t, x, 12, 3)
	isDue(t, x, 20, 2)
}

// The kinds are new memory, with their spare capacity: the caller may write to it, and the table goes on.
func TestDueIsNewMemory(t *testing.T) {
	x := set(timer{1, 1}, timer{2, 2}, timer{3, 3}, timer{4, 4}, timer{5, 5}, timer{6, 6})
	first := x.Due(3)
	all := first[:cap(first)]
	for i := range all {
		all[i] = 77
	}
	has(t, x, timer{4, 4}, timer{5, 5}, timer{6, 6})
	second := x.Due(6)
	if !slices.Equal(second, []int{4, 5, 6}) || !slices.Equal(first, []int{77, 77, 77}) {
		t.Errorf("Due = %d after %d", second, first)
	}
	x.Set(9, 9)
	isDue(t, x, 9, 9)
	if !slices.Equal(second, []int{4, 5, 6}) {
		t.Errorf("a later call changed %d", second)
	}
}

// Tables are apart from each other.
func TestTablesApart(t *testing.T) {
	a, b := set(timer{1, 10}), set(timer{1, 20}, timer{2, 5})
	has(t, a, timer{1, 10})
	stops(t, b, 1, true)
	has(t, a, timer{1, 10})
	isDue(t, a, 10, 1)
	has(t, b, timer{2, 5})
	has(t, &Table{})
}

// P16.1, P16.2: many timers, in orders that could be slow.
func TestMany(t *testing.T) {
	const n = 100000
	places := map[string]func(i int) int{
		"up":     func(i int) int { return i },
		"down":   func(i int) int { return n - 1 - i },
		"mixed":  func(i int) int { return i * 7919 % n },
		"inward": func(i int) int { return min(2*i, 2*(n-1-i)+1) },
	}
	for name, place := range places {
		var x Table
		for i := range n {
			x.Set(i, uint64(n+place(i)))
		}
		for i := range n { // each one is earlier than before
			x.Set(i, uint64(place(i)))
		}
		for i := 0; i < n; i += 2 {
			stops(t, &x, i, true)
		}
		if x.Len() != n/2 {
			t.Fatalf("%s: Len = %d", name, x.Len())
		}
		var want []int
		for i := 1; i < n; i += 2 {
			want = append(want, i)
		}
		slices.SortFunc(want, func(a, b int) int { return cmp.Compare(place(a), place(b)) })
		got := x.Due(n / 2)
		if !slices.IsSortedFunc(got, func(a, b int) int { return cmp.Compare(place(a), place(b)) }) {
			t.Errorf("%s: Due is not in order", name)
		}
		if got = append(got, x.Due(last)...); !slices.Equal(got, want) {
			t.Errorf("%s: Due gives %d of %d", name, len(got), len(want))
		}
		has(t, &x)
	}
}

// What was stopped or due is not kept: a table that has had many has room for few.
func TestNothingIsKept(t *testing.T) {
	var x Table
	for i := range 200000 {
		x.Set(i, uint64(i+1))
		x.Set(i, uint64(i))
		if i%2 == 0 {
			stops(t, &x, i, true)
		} else {
			isDue(t, &x, uint64(i), i)
		}
	}
	if len(x.timers) != 0 || cap(x.queue) > 16 {
		t.Errorf("%d timers are kept, and room for %d", len(x.timers), cap(x.queue))
	}
	for _, e := range x.queue[:cap(x.queue)] {
		if e != nil {
			t.Errorf("an entry is kept: %d", e.kind)
		}
	}
}

// chance: a tick near others, or at an end.
func chance(r *rand.Rand, near uint64) uint64 {
	switch r.Intn(12) {
	case 0:
		return 0
	case 1:
		return last
	case 2:
		return r.Uint64()
	default:
		return near + uint64(r.Intn(20))
	}
}

// sometime: a call of chance on both tables, of so many kinds.
func sometime(t *testing.T, r *rand.Rand, x *Table, p plainTable, kinds int, near uint64) {
	t.Helper()
	kind := r.Intn(kinds) - kinds/2
	switch r.Intn(8) {
	case 0:
		now := near + uint64(r.Intn(8))
		if r.Intn(20) == 0 {
			now = chance(r, near)
		}
		isDue(t, x, now, p.due(now)...)
	case 1, 2:
		stops(t, x, kind, p.stop(kind))
	default:
		at := chance(r, near)
		x.Set(kind, at)
		p[kind] = at
	}
}

// same: do both tables tell the same?
func same(t *testing.T, x *Table, p plainTable, kinds int) {
	t.Helper()
	if x.Len() != len(p) {
		t.Errorf("Len = %d, want %d", x.Len(), len(p))
	}
	if at, ok := x.Next(); at != p.next() || ok != (len(p) > 0) {
		t.Errorf("Next = %d, %v, want %d, %v", at, ok, p.next(), len(p) > 0)
	}
	for kind := -kinds; kind <= kinds; kind++ {
		want, set := p[kind]
		if at, ok := x.At(kind); at != want || ok != set {
			t.Errorf("At(%d) = %d, %v, want %d, %v", kind, at, ok, want, set)
		}
	}
}

// P16.1, P16.2: runs of calls, held against the chapter's words.
func TestRuns(t *testing.T) {
	r := rand.New(rand.NewSource(16))
	for run := range 600 {
		kinds := []int{1, 2, 4, 5, 9, 40}[run%6]
		x, p := &Table{}, plainTable{}
		for i := range 200 {
			sometime(t, r, x, p, kinds, uint64(i))
			same(t, x, p, kinds)
		}
		isDue(t, x, last, p.due(last)...)
		same(t, x, p, kinds)
		if t.Failed() {
			t.Fatalf("run %d, with %d kinds", run, kinds)
		}
	}
}
