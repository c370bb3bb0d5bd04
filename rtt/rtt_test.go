package rtt

import (
	"math"
	"math/rand"
	"testing"
)

// plainEstimate is what the chapter says of an estimate, line by line: all that was called is kept, and each answer
// is worked out anew from it.
type plainEstimate struct {
	samples []int // that were taken
	doubles int   // calls of Double since the last one of them, and since the last Clear
}

func (p *plainEstimate) sample(t int) bool {
	if t < 0 || t > 60000 {
		return false
	}
	p.samples = append(p.samples, t)
	p.doubles = 0
	return true
}

// floor of a quotient, by way of numbers that have fractions.
func floor(a, b int) int {
	return int(math.Floor(float64(a) / float64(b)))
}

func (p *plainEstimate) smooth() (int, int) {
	s, dev := 0, 0
	for i, t := range p.samples {
		if i == 0 {
			s, dev = 8*t, 2*t
			continue
		}
		d := t - floor(s, 8)
		s, dev = s+d, dev+int(math.Abs(float64(d)))-floor(dev, 4)
	}
	return s, dev
}

func (p *plainEstimate) wait() int {
	w := 30
	if len(p.samples) > 0 {
		s, dev := p.smooth()
		w = limited(floor(s, 8) + dev)
	}
	for range p.doubles {
		w *= 2
		if w > 600 {
			w = 600
		}
	}
	return w
}

// limited to 10 to 600.
func limited(n int) int {
	if n < 10 {
		return 10
	}
	if n > 600 {
		return 600
	}
	return n
}

// sampled is an estimate with some samples.
func sampled(t *testing.T, samples ...int) *Estimate {
	t.Helper()
	e := &Estimate{}
	for _, x := range samples {
		takes(t, e, x)
	}
	return e
}

// doubled an estimate n times.
func doubled(e *Estimate, n int) *Estimate {
	for range n {
		e.Double()
	}
	return e
}

func takes(t *testing.T, e *Estimate, x int) {
	t.Helper()
	if !e.Sample(x) {
		t.Errorf("Sample(%d) = false", x)
	}
}

// tells: does an estimate tell these numbers? It is asked twice, as asking changes nothing.
func tells(t *testing.T, name string, e *Estimate, s, dev, wait int) {
	t.Helper()
	for range 2 {
		if a, b := e.Smooth(); a != s || b != dev {
			t.Errorf("%s: Smooth %d, %d, want %d, %d", name, a, b, s, dev)
		}
		if got := e.Wait(); got != wait {
			t.Errorf("%s: Wait %d, want %d", name, got, wait)
		}
	}
}

// waits: are these the waits after no doubling, one, and so on?
func waits(t *testing.T, name string, e *Estimate, want ...int) {
	t.Helper()
	for i, w := range want {
		if got := e.Wait(); got != w {
			t.Errorf("%s: after %d doublings Wait %d, want %d", name, i, got, w)
		}
		e.Double()
	}
}

// refused are times that are none.
var refused = []int{-1, -2, -20, -60000, math.MinInt32, math.MinInt, 60001, 60002, 65536, math.MaxInt32, math.MaxInt}

// The chapter's examples

func TestExamples(t *testing.T) {
	e := sampled(t, 20)
	tells(t, "after 20", e, 160, 40, 60)
	e.Double()
	tells(t, "after Double", e, 160, 40, 120)
	takes(t, e, 20)
	tells(t, "after another 20", e, 160, 30, 50)
}

// P10.1

func TestZeroValue(t *testing.T) {
	var e Estimate
	tells(t, "the zero value", &e, 0, 0, 30)
}

// Each time that there is, as the first sample.
func TestFirstSample(t *testing.T) {
	for x := 0; x <= 60000; x++ {
		var e Estimate
		if !e.Sample(x) {
			t.Fatalf("Sample(%d) = false", x)
		}
		if s, dev := e.Smooth(); s != 8*x || dev != 2*x {
			t.Fatalf("after %d: Smooth %d, %d", x, s, dev)
		}
		if got := e.Wait(); got != limited(3*x) {
			t.Fatalf("after %d: Wait %d, want %d", x, got, limited(3*x))
		}
	}
}

// The numbers are worked out by hand.
func TestLaterSample(t *testing.T) {
	for _, x := range []struct {
		name         string
		samples      []int
		s, dev, wait int
	}{
		{"less", []int{20, 4}, 144, 46, 64},
		{"more", []int{20, 36}, 176, 46, 68},
		{"the same", []int{20, 20}, 160, 30, 50},
		{"both are rounded down", []int{20, 36, 36, 36}, 203, 50, 75},     // from 190, 49: d is 36 - 23; 49 less 12
		{"D alone is rounded down", []int{5, 5}, 40, 8, 13},               // from 10: less 2
		{"D below four stays", []int{1, 1}, 8, 2, 10},                     // from 2: less 0
		{"D of four goes on", []int{2, 2}, 16, 3, 10},                     // from 4: less 1
		{"the previous D counts", []int{4, 20}, 48, 22, 28},               // from 8, with d 16: less 2, not 24 / 4
		{"a first sample of none", []int{0, 8}, 8, 8, 10},                 // not 64, 16: the first one was taken
		{"two of none", []int{0, 0, 8}, 8, 8, 10},                         // likewise
		{"down to none", []int{1, 0, 0}, 7, 3, 10},                        // d is -1, then 0: 7 / 8 is 0
		{"up from below eight", []int{1, 0, 1}, 8, 4, 10},                 // d is 1, though 7 / 8 is nearly 1
		{"as far up as there is", []int{0, 60000}, 60000, 60000, 600},     // d is 60000
		{"as far down as there is", []int{60000, 0}, 420000, 150000, 600}, // d is -60000; 120000 less 30000
	} {
		tells(t, x.name, sampled(t, x.samples...), x.s, x.dev, x.wait)
	}
}

// After a pair of samples: d of both signs, and of each remainder by eight.
func TestPairsOfSamples(t *testing.T) {
	for first := range 130 {
		for second := range 130 {
			s, dev := 8*first, 2*first
			d := second - first // S is a multiple of eight here
			e := sampled(t, first, second)
			wantS, wantDev := s+d, dev+int(math.Abs(float64(d)))-floor(dev, 4)
			tells(t, "a pair", e, wantS, wantDev, limited(floor(wantS, 8)+wantDev))
		}
	}
}

func TestSampleRefused(t *testing.T) {
	for _, x := range refused {
		var e Estimate
		if e.Sample(x) {
			t.Errorf("Sample(%d) = true", x)
		}
		tells(t, "nothing but a refused one", &e, 0, 0, 30)
		takes(t, &e, 7)
		tells(t, "the first one after a refused one", &e, 56, 14, 21)
	}
}

// What is refused leaves the numbers and the doublings as they are, whether there was a sample or not.
func TestSampleRefusedChangesNothing(t *testing.T) {
	for _, x := range refused {
		blind := doubled(&Estimate{}, 2)
		if blind.Sample(x) {
			t.Errorf("Sample(%d) = true", x)
		}
		tells(t, "without a sample", blind, 0, 0, 120)
		e := doubled(sampled(t, 20, 4), 2)
		if e.Sample(x) {
			t.Errorf("Sample(%d) = true", x)
		}
		tells(t, "with samples", e, 144, 46, 256)
		takes(t, e, 4)
		tells(t, "with one more", e, 130, 49, 65)
	}
}

func TestSampleAtItsEnds(t *testing.T) {
	e := sampled(t, 0)
	tells(t, "none", e, 0, 0, 10)
	e = sampled(t, 60000)
	tells(t, "the longest", e, 480000, 120000, 600)
}

// P10.1, P10.2: a sample that is taken ends the doublings, also if it changes nothing else.
func TestSampleEndsDoublings(t *testing.T) {
	e := doubled(&Estimate{}, 3)
	takes(t, e, 20)
	tells(t, "the first one", e, 160, 40, 60)
	takes(t, doubled(e, 5), 20)
	tells(t, "a later one", e, 160, 30, 50)
	none := sampled(t, 0)
	takes(t, doubled(none, 4), 0)
	waits(t, "one that changes nothing", none, 10, 20)
}

// P10.2

func TestWaitOfSample(t *testing.T) {
	for _, x := range []struct{ sample, want int }{
		{0, 10}, {1, 10}, {2, 10}, {3, 10}, {4, 12}, {5, 15}, {10, 30},
		{199, 597}, {200, 600}, {201, 600}, {1000, 600}, {60000, 600},
	} {
		if got := sampled(t, x.sample).Wait(); got != x.want {
			t.Errorf("after %d: Wait %d, want %d", x.sample, got, x.want)
		}
	}
}

// The limits hold ahead of the doublings, and after each of them.
func TestWaitDoubled(t *testing.T) {
	waits(t, "without a sample", &Estimate{}, 30, 60, 120, 240, 480, 600, 600, 600)
	waits(t, "the least", sampled(t, 0), 10, 20, 40, 80, 160, 320, 600, 600, 600)
	waits(t, "3, of which 9 come", sampled(t, 3), 10, 20, 40, 80, 160, 320, 600, 600)
	waits(t, "4", sampled(t, 4), 12, 24, 48, 96, 192, 384, 600, 600)
	waits(t, "25", sampled(t, 25), 75, 150, 300, 600, 600)
	waits(t, "100", sampled(t, 100), 300, 600, 600)
	waits(t, "101", sampled(t, 101), 303, 600, 600)
	waits(t, "the most", sampled(t, 200), 600, 600, 600)
	waits(t, "more than the most", sampled(t, 60000), 600, 600, 600)
}

// However often it is doubled: no count may go round.
func TestWaitDoubledOften(t *testing.T) {
	for _, n := range []int{31, 32, 33, 63, 64, 65, 127, 128, 255, 256, 257, 1000, 65535, 65536, 65537, 1 << 22} {
		for _, e := range []*Estimate{{}, sampled(t, 0), sampled(t, 20)} {
			s, dev := e.Smooth()
			tells(t, "often", doubled(e, n), s, dev, 600)
		}
	}
}

func TestClear(t *testing.T) {
	var e Estimate
	e.Clear()
	tells(t, "of the zero value", &e, 0, 0, 30)
	doubled(&e, 3).Clear()
	waits(t, "without a sample", &e, 30, 60, 120)
	for _, n := range []int{0, 1, 2, 5, 6, 7, 100, 70000} {
		e := doubled(sampled(t, 20, 4), n)
		e.Clear()
		tells(t, "with samples", e, 144, 46, 64)
		e.Clear()
		waits(t, "twice", e, 64, 128, 256, 512, 600)
	}
}

// Neither Clear nor Double is a sample, nor takes one back.
func TestClearAndDoubleKeepSamples(t *testing.T) {
	var e Estimate
	doubled(&e, 2).Clear()
	takes(t, &e, 20)
	tells(t, "the first one", &e, 160, 40, 60)
	doubled(&e, 2).Clear()
	takes(t, &e, 4)
	tells(t, "a later one", &e, 144, 46, 64)
}

// Estimates are apart from each other, and each one goes on from a copy by itself.
func TestEstimatesApart(t *testing.T) {
	a, b := sampled(t, 20), sampled(t, 100)
	tells(t, "a", a, 160, 40, 60)
	c := *a
	takes(t, doubled(a, 2), 4)
	tells(t, "b", doubled(b, 1), 800, 200, 600)
	tells(t, "c", &c, 160, 40, 60)
	tells(t, "a changed", a, 144, 46, 64)
}

// sometime: a call of chance on both estimates.
func sometime(t *testing.T, r *rand.Rand, e *Estimate, p *plainEstimate, top int) {
	t.Helper()
	switch r.Intn(6) {
	case 0:
		x := refused[r.Intn(len(refused))]
		if got, want := e.Sample(x), p.sample(x); got != want {
			t.Errorf("Sample(%d) = %v", x, got)
		}
	case 1, 2:
		x := r.Intn(top + 1)
		if got, want := e.Sample(x), p.sample(x); got != want {
			t.Errorf("Sample(%d) = %v", x, got)
		}
	case 3, 4:
		e.Double()
		p.doubles++
	default:
		e.Clear()
		p.doubles = 0
	}
}

// P10.1, P10.2, and of P10.3 that a wait is from 10 to 600: runs of calls, held against the chapter's words.
func TestRuns(t *testing.T) {
	r := rand.New(rand.NewSource(10))
	for run := range 1500 {
		top := []int{0, 1, 2, 5, 20, 60, 300, 1000, 60000}[run%9]
		e, p := &Estimate{}, &plainEstimate{}
		for range 60 {
			sometime(t, r, e, p, top)
			s, dev := p.smooth()
			tells(t, "a run", e, s, dev, p.wait())
			if w := e.Wait(); w < 10 || w > 600 {
				t.Errorf("Wait %d", w)
			}
		}
		if t.Failed() {
			t.Fatalf("run %d, with samples up to %d", run, top)
		}
	}
}

// P10.3

// befores are samples, each at most 1000, that may come before: none, one, long runs of one, of two in turn, and such
// that end with what is farthest away.
func befores() [][]int {
	all := [][]int{nil, {0}, {1}, {999}, {1000}, {0, 1000}, {1000, 0}}
	for _, two := range [][2]int{{0, 0}, {1000, 1000}, {0, 1000}, {1000, 0}, {1, 2}, {500, 501}, {0, 7}} {
		var run []int
		for range 100 {
			run = append(run, two[0], two[1])
		}
		all = append(all, run)
	}
	r := rand.New(rand.NewSource(103))
	for range 30 {
		var run []int
		for range r.Intn(200) {
			run = append(run, r.Intn(1001))
		}
		all = append(all, run)
	}
	return all
}

// settles: after four hundred samples that are all x, with doublings among them, is the wait what it must be?
func settles(t *testing.T, before []int, x int) {
	t.Helper()
	e := sampled(t, before...)
	for range 400 {
		e.Double()
		takes(t, e, x)
	}
	if w, want := e.Wait(), limited(x); w < want || w > want+8 || w > 600 {
		t.Errorf("after %d samples, and then %d: Wait %d", len(before), x, w)
	}
}

func TestWaitSettles(t *testing.T) {
	for i, before := range befores() {
		step := 1
		if i >= 14 {
			step = 17
		}
		for x := 0; x <= 1000; x += step {
			settles(t, before, x)
		}
		settles(t, before, 60000)
	}
}

// What it settles at stays, and is told without doublings alone.
func TestWaitSettled(t *testing.T) {
	e := sampled(t, 1000, 0, 1000)
	for range 400 {
		takes(t, e, 50)
	}
	s, dev := e.Smooth()
	w := e.Wait()
	if s/8 != 50 || dev < 0 || dev > 3 || w != 50+dev {
		t.Errorf("Smooth %d, %d, Wait %d", s, dev, w)
	}
	takes(t, e, 50)
	tells(t, "one more", e, s, dev, w)
	waits(t, "doubled", e, w, 2*w, 4*w, 8*w, 600)
}
