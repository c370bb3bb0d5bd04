package span

import (
	"fmt"
	"math/rand"
	"slices"
	"testing"

	"flume/api"
)

const (
	top  = 1<<32 - 1
	half = 1 << 31
)

// marks are where sets begin in the tests: ordinary ones, and those next to the wrap-around and to the middle.
var marks = []uint32{0, 1, 7, 65535, 123456789, half - 3, half - 1, half, half + 1, top - 4096, top - 4, top - 1, top}

// added is a set with some numbers, given by how far they are ahead of its first mark.
func added(mark uint32, steps ...uint32) *Set {
	s := New(mark)
	for _, d := range steps {
		s.Add(mark + d)
	}
	return s
}

// gaps of rows by their two ends.
func gaps(ends ...uint16) []api.Gap {
	var all []api.Gap
	for i := 0; i < len(ends); i += 2 {
		all = append(all, api.Gap{From: ends[i], To: ends[i+1]})
	}
	return all
}

// same: does a set tell this mark and these rows, and the number of what is in them?
func same(t *testing.T, name string, s *Set, mark uint32, want []api.Gap) {
	t.Helper()
	if s.Mark() != mark {
		t.Errorf("%s: mark %d, want %d", name, s.Mark(), mark)
	}
	if got := s.Gaps(api.MaxSpan); !slices.Equal(got, want) {
		t.Errorf("%s: gaps %v, want %v", name, got, want)
	}
	n := 0
	for _, g := range want {
		n += int(g.To-g.From) + 1
	}
	if s.Len() != n {
		t.Errorf("%s: len %d, want %d", name, s.Len(), n)
	}
}

// The chapter's examples

func TestExamples(t *testing.T) {
	s := New(7)
	if n := s.Add(9); n != api.Fresh {
		t.Errorf("Add(9) = %v", n)
	}
	s.Add(10)
	s.Add(12)
	if g := s.Gaps(9); !slices.Equal(g, gaps(2, 3, 5, 5)) {
		t.Errorf("gaps %v", g)
	}
	s.Add(8)
	same(t, "after 8", s, 10, gaps(2, 2))
	if n := s.Add(7); n != api.Twice {
		t.Errorf("Add(7) = %v", n)
	}
	if !s.Skip(11) {
		t.Error("Skip(11) = false")
	}
	same(t, "after Skip(11)", s, 12, nil)
}

// P2.1

func TestNew(t *testing.T) {
	for _, m := range marks {
		same(t, fmt.Sprint("New ", m), New(m), m, nil)
	}
}

func TestAddNews(t *testing.T) {
	for _, m := range marks {
		for _, x := range []struct {
			step uint32
			want api.News
		}{
			{0, api.Twice}, // the mark
			{top, api.Twice},
			{top - 4096, api.Twice},
			{half + 1, api.Twice},
			{half, api.Twice}, // half the range away
			{half - 1, api.Far},
			{1000000, api.Far},
			{api.MaxSpan + 1, api.Far},
			{api.MaxSpan, api.Fresh},
			{api.MaxSpan - 1, api.Fresh},
			{3, api.Fresh},
			{2, api.Fresh},
			{1, api.Fresh},
		} {
			if got := New(m).Add(m + x.step); got != x.want {
				t.Errorf("New(%d): Add of %d steps = %v, want %v", m, x.step, got, x.want)
			}
		}
	}
}

func TestAddTwice(t *testing.T) {
	for _, m := range marks {
		for _, d := range []uint32{1, 2, 3, 100, api.MaxSpan} {
			s := added(m, d)
			if got := s.Add(m + d); got != api.Twice {
				t.Errorf("New(%d): %d steps again = %v", m, d, got)
			}
		}
	}
}

// What is not Fresh changes nothing.
func TestAddWithoutChange(t *testing.T) {
	for _, m := range marks {
		s := added(m, 2, 3, 6)
		for _, d := range []uint32{0, top, half, half + 1, half - 1, 2, 3, 6, api.MaxSpan + 1} {
			if got := s.Add(m + d); got == api.Fresh {
				t.Errorf("New(%d): %d steps is fresh", m, d)
			}
			same(t, fmt.Sprint("New ", m, " after ", d), s, m, gaps(2, 3, 6, 6))
		}
	}
}

func TestAddAdvances(t *testing.T) {
	for _, m := range marks {
		for _, x := range []struct {
			steps []uint32
			mark  uint32
			want  []api.Gap
		}{
			{[]uint32{1}, 1, nil},
			{[]uint32{1, 2, 3}, 3, nil},
			{[]uint32{2}, 0, gaps(2, 2)},
			{[]uint32{2, 1}, 2, nil},
			{[]uint32{3, 1}, 1, gaps(2, 2)},
			{[]uint32{3, 2, 1}, 3, nil},
			{[]uint32{2, 3, 5, 1}, 3, gaps(2, 2)},
			{[]uint32{2, 3, 5, 1, 4}, 5, nil},
			{[]uint32{3, 4, 6, 2, 1}, 4, gaps(2, 2)},
			{[]uint32{api.MaxSpan, 1}, 1, gaps(api.MaxSpan-1, api.MaxSpan-1)},
		} {
			same(t, fmt.Sprint("New ", m, " with ", x.steps), added(m, x.steps...), m+x.mark, x.want)
		}
	}
}

// How far is too far goes on with the mark.
func TestFarGoesOn(t *testing.T) {
	for _, m := range marks {
		s := New(m)
		if got := s.Add(m + api.MaxSpan + 1); got != api.Far {
			t.Errorf("New(%d): %v", m, got)
		}
		s.Add(m + 1)
		if got := s.Add(m + api.MaxSpan + 2); got != api.Far {
			t.Errorf("New(%d) after a step: %v", m, got)
		}
		if got := s.Add(m + api.MaxSpan + 1); got != api.Fresh {
			t.Errorf("New(%d) after a step: %v", m, got)
		}
		same(t, fmt.Sprint("New ", m), s, m+1, gaps(api.MaxSpan, api.MaxSpan))
	}
}

// All that fits: then the number next to the mark makes all of it one row, and the mark passes that.
func TestAddAll(t *testing.T) {
	for _, m := range marks {
		s := New(m)
		for d := uint32(api.MaxSpan); d >= 2; d-- {
			if got := s.Add(m + d); got != api.Fresh {
				t.Fatalf("New(%d): %d steps = %v", m, d, got)
			}
		}
		same(t, fmt.Sprint("New ", m), s, m, gaps(2, api.MaxSpan))
		s.Add(m + 1)
		same(t, fmt.Sprint("New ", m, " and the next"), s, m+api.MaxSpan, nil)
	}
}

// P2.2

func TestSkipNot(t *testing.T) {
	for _, m := range marks {
		s := added(m, 2, 3, 6)
		for _, d := range []uint32{0, top, top - 5000, half + 1, half} {
			if s.Skip(m + d) {
				t.Errorf("New(%d): Skip of %d steps = true", m, d)
			}
			same(t, fmt.Sprint("New ", m, " after ", d), s, m, gaps(2, 3, 6, 6))
		}
	}
}

func TestSkip(t *testing.T) {
	steps := []uint32{2, 3, 5, 8, 9, 10, 20}
	for _, m := range marks {
		for _, x := range []struct {
			to, mark uint32
			want     []api.Gap
		}{
			{1, 3, gaps(2, 2, 5, 7, 17, 17)},  // up to a row
			{2, 3, gaps(2, 2, 5, 7, 17, 17)},  // into a row
			{3, 3, gaps(2, 2, 5, 7, 17, 17)},  // to the end of one
			{4, 5, gaps(3, 5, 15, 15)},        // between two
			{5, 5, gaps(3, 5, 15, 15)},        // a row of one number
			{6, 6, gaps(2, 4, 14, 14)},        // nothing touches the new mark
			{7, 10, gaps(10, 10)},             // over rows
			{8, 10, gaps(10, 10)},             // to the begin of one
			{9, 10, gaps(10, 10)},             // into its middle
			{10, 10, gaps(10, 10)},            // to its end
			{11, 11, gaps(9, 9)},              // ..
			{18, 18, gaps(2, 2)},              // ..
			{19, 20, nil},                     // up to the last one
			{20, 20, nil},                     // to the last one
			{21, 21, nil},                     // over all
			{api.MaxSpan, api.MaxSpan, nil},   // as far as numbers go
			{api.MaxSpan + 1, 4097, nil},      // farther
			{1000000, 1000000, nil},           // ..
			{half - 1, half - 1, nil},         // the farthest that is after the mark
			{half - 4096, half - 4096, nil},   // ..
			{half - 10000, half - 10000, nil}, // ..
		} {
			s := added(m, steps...)
			if !s.Skip(m + x.to) {
				t.Errorf("New(%d): Skip of %d steps = false", m, x.to)
			}
			same(t, fmt.Sprint("New ", m, " after ", x.to), s, m+x.mark, x.want)
		}
	}
}

func TestSkipOfEmpty(t *testing.T) {
	for _, m := range marks {
		for _, d := range []uint32{1, 2, api.MaxSpan, api.MaxSpan + 1, half - 1} {
			s := New(m)
			if !s.Skip(m + d) {
				t.Errorf("New(%d): Skip of %d steps = false", m, d)
			}
			same(t, fmt.Sprint("New ", m, " after ", d), s, m+d, nil)
		}
	}
}

// What the mark passed is known by it, and is not there any more when the mark has gone all the way round.
func TestSkipPassed(t *testing.T) {
	for _, m := range marks {
		s := added(m, 5, 6, 9)
		s.Skip(m + 7)
		for d := range uint32(8) {
			if !s.Has(m + d) {
				t.Errorf("New(%d): %d steps not known", m, d)
			}
			if got := s.Add(m + d); got != api.Twice {
				t.Errorf("New(%d): %d steps = %v", m, d, got)
			}
		}
		s.Skip(m + half)
		s.Skip(m + top)
		same(t, fmt.Sprint("New ", m, " round"), s, m+top, nil)
		if s.Has(m+5) || s.Has(m+9) {
			t.Errorf("New(%d): known of the last round", m)
		}
		if got := s.Add(m + 5); got != api.Fresh {
			t.Errorf("New(%d): %v", m, got)
		}
	}
}

// P2.3

func TestHas(t *testing.T) {
	for _, m := range marks {
		s := added(m, 2, 3, 6, api.MaxSpan)
		s.Add(m + api.MaxSpan + 1)
		for _, x := range []struct {
			step uint32
			want bool
		}{
			{0, true}, {top, true}, {top - 4096, true}, {half + 1, true}, // by the mark
			{half, false}, // half the range away: neither is less
			{half - 1, false},
			{1, false}, {2, true}, {3, true}, {4, false}, {5, false}, {6, true}, {7, false},
			{api.MaxSpan - 1, false}, {api.MaxSpan, true}, {api.MaxSpan + 1, false},
		} {
			if got := s.Has(m + x.step); got != x.want {
				t.Errorf("New(%d): Has of %d steps = %v, want %v", m, x.step, got, x.want)
			}
		}
	}
}

func TestGapsMost(t *testing.T) {
	for _, m := range marks {
		s := added(m, 9, 2, 5, 3, 12, 6)
		all := gaps(2, 3, 5, 6, 9, 9, 12, 12)
		for _, x := range []struct{ most, want int }{
			{-1 << 63, 0}, {-1, 0}, {0, 0}, {1, 1}, {2, 2}, {3, 3}, {4, 4}, {5, 4}, {api.MaxGaps, 4}, {1<<63 - 1, 4},
		} {
			if got := s.Gaps(x.most); !slices.Equal(got, all[:x.want]) {
				t.Errorf("New(%d): Gaps(%d) = %v, want %v", m, x.most, got, all[:x.want])
			}
		}
	}
}

// As many rows as there can be: every second number.
func TestGapsOfEverySecond(t *testing.T) {
	for _, m := range marks {
		s := New(m)
		var want []api.Gap
		for d := uint16(2); d <= api.MaxSpan; d += 2 {
			s.Add(m + uint32(d))
			want = append(want, api.Gap{From: d, To: d})
		}
		same(t, fmt.Sprint("New ", m), s, m, want)
		if got := s.Gaps(api.MaxGaps); !slices.Equal(got, want[:api.MaxGaps]) {
			t.Errorf("New(%d): Gaps(%d) = %v", m, api.MaxGaps, got)
		}
		for d := uint32(1); d < api.MaxSpan; d += 2 {
			s.Add(m + d)
			if s.Mark() != m+d+1 {
				t.Fatalf("New(%d): mark %d after %d steps", m, s.Mark(), d)
			}
		}
		same(t, fmt.Sprint("New ", m, " filled"), s, m+api.MaxSpan, nil)
	}
}

// What Gaps returned is the caller's: writing to it changes nothing, and nothing changes it.
func TestGapsAreNew(t *testing.T) {
	s := added(7, 2, 4, 6)
	first := s.Gaps(2)
	for i := range first[:cap(first)] {
		first[:cap(first)][i] = api.Gap{From: 77, To: 78}
	}
	second := s.Gaps(9)
	same(t, "written to", s, 7, gaps(2, 2, 4, 4, 6, 6))
	s.Add(8)
	s.Add(10)
	if !slices.Equal(second, gaps(2, 2, 4, 4, 6, 6)) {
		t.Errorf("gaps told before: %v", second)
	}
}

func TestAskingChangesNothing(t *testing.T) {
	s := added(7, 2, 4, 6)
	for range 3 {
		s.Has(8)
		s.Has(9)
		s.Gaps(1)
		s.Gaps(-1)
		s.Len()
		s.Mark()
		same(t, "asked", s, 7, gaps(2, 2, 4, 4, 6, 6))
	}
}

// P2.4

// orders of numbers: each one is handed to do.
func orders(steps []uint32, do func(steps []uint32)) {
	if len(steps) == 0 {
		do(nil)
		return
	}
	for i, d := range steps {
		rest := slices.Delete(slices.Clone(steps), i, i+1)
		orders(rest, func(more []uint32) { do(append([]uint32{d}, more...)) })
	}
}

func TestOrder(t *testing.T) {
	for _, x := range []struct {
		steps []uint32
		mark  uint32
		want  []api.Gap
	}{
		{[]uint32{1, 2, 3, 4, 5}, 5, nil},
		{[]uint32{1, 2, 4, 5, 7}, 2, gaps(2, 3, 5, 5)},
		{[]uint32{2, 3, 4, 5, 6}, 0, gaps(2, 6)},
		{[]uint32{2, 3, 5, 7, 8}, 0, gaps(2, 3, 5, 5, 7, 8)},
		{[]uint32{1, 3, 5, 4095, 4096}, 1, gaps(2, 2, 4, 4, 4094, 4095)},
	} {
		for _, m := range []uint32{0, 7, half - 3, top - 3, top} {
			orders(x.steps, func(steps []uint32) {
				name := fmt.Sprint("New ", m, " with ", steps)
				same(t, name, added(m, steps...), m+x.mark, x.want)
				same(t, name+" twice", added(m, append(steps, steps...)...), m+x.mark, x.want)
			})
		}
	}
}

// plain is a set worked out number by number, to hold the other one against.
type plain struct {
	mark  uint32
	known map[uint32]bool
}

func (p *plain) after(t uint32) bool { return t-p.mark >= 1 && t-p.mark < half }

func (p *plain) advance() {
	for p.known[p.mark+1] {
		p.mark++
	}
	for t := range p.known {
		if !p.after(t) {
			delete(p.known, t)
		}
	}
}

func (p *plain) Add(t uint32) api.News {
	switch {
	case !p.after(t) || p.known[t]:
		return api.Twice
	case t-p.mark > 4096:
		return api.Far
	}
	p.known[t] = true
	p.advance()
	return api.Fresh
}

func (p *plain) Skip(to uint32) bool {
	if !p.after(to) {
		return false
	}
	p.mark = to
	p.advance()
	return true
}

func (p *plain) gaps() []api.Gap {
	var all []api.Gap
	for d := uint32(1); d <= 4096; d++ {
		if !p.known[p.mark+d] {
			continue
		}
		if n := len(all); n > 0 && uint32(all[n-1].To)+1 == d {
			all[n-1].To++
			continue
		}
		all = append(all, api.Gap{From: uint16(d), To: uint16(d)})
	}
	return all
}

// Long runs of calls, of the kinds in which sets are filled: near the mark, far ahead, and behind.
func TestRuns(t *testing.T) {
	for seed := range int64(60) {
		r := rand.New(rand.NewSource(seed))
		m := marks[r.Intn(len(marks))]
		near := []int{4, 12, 60, 5000}[r.Intn(4)]
		s, p := New(m), &plain{mark: m, known: map[uint32]bool{}}
		for i := range 400 {
			x := p.mark + uint32(r.Intn(near)-near/8)
			if r.Intn(50) == 0 {
				x = r.Uint32()
			}
			if r.Intn(12) == 0 {
				if got, want := s.Skip(x), p.Skip(x); got != want {
					t.Fatalf("run %d: Skip(%d) = %v, want %v", seed, x, got, want)
				}
			} else if got, want := s.Add(x), p.Add(x); got != want {
				t.Fatalf("run %d: Add(%d) = %v, want %v", seed, x, got, want)
			}
			y := p.mark + uint32(r.Intn(near)-near/8)
			if want := p.known[y] || y == p.mark || p.mark-y-1 < half-1; s.Has(y) != want {
				t.Fatalf("run %d: Has(%d) = %v", seed, y, !want)
			}
			if s.Len() != len(p.known) || s.Mark() != p.mark {
				t.Fatalf("run %d: len %d and mark %d, want %d and %d", seed, s.Len(), s.Mark(), len(p.known), p.mark)
			}
			if i%20 == 0 {
				same(t, fmt.Sprint("run ", seed), s, p.mark, p.gaps())
			}
		}
	}
}

// Many numbers, in an order of chance and some of them twice, make the same set as in their own order.
func TestOrderOfMany(t *testing.T) {
	for seed := range int64(20) {
		r := rand.New(rand.NewSource(seed))
		m := marks[r.Intn(len(marks))]
		var steps []uint32
		for d := uint32(1); d <= 4096; d++ {
			if r.Intn(5) > 0 {
				steps = append(steps, d)
			}
		}
		want := added(m, steps...)
		mixed := append(slices.Clone(steps), steps[:len(steps)/2]...)
		r.Shuffle(len(mixed), func(i, j int) { mixed[i], mixed[j] = mixed[j], mixed[i] })
		same(t, fmt.Sprint("order ", seed), added(m, mixed...), want.Mark(), want.Gaps(4096))
	}
}
