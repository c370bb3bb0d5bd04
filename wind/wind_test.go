package wind

import (
	"math"
	"math/rand"
	"testing"
)

// plainWindow is what the chapter says of a window, line by line, in numbers of 64 bits.
type plainWindow struct{ size, threshold, count int64 }

func newPlain() *plainWindow {
	return &plainWindow{4380, 1048576, 0}
}

// taken is a number of bytes as it counts.
func taken(n int) int64 {
	if n < 0 {
		return 0
	}
	if n > 1073741824 {
		return 1073741824
	}
	return int64(n)
}

func (p *plainWindow) acked(n, flight int, on bool) {
	bytes, away := taken(n), taken(flight)
	if p.size <= p.threshold {
		if on && away >= p.size {
			if bytes < 1200 {
				p.size += bytes
			} else {
				p.size += 1200
			}
		}
	} else {
		p.count += bytes
		if p.count >= p.size && away >= p.size {
			p.count -= p.size
			p.size += 1200
		}
	}
	if p.size > 1048576 {
		p.size = 1048576
	}
}

// half the size, but at least four segments.
func (p *plainWindow) half() int64 {
	h := int64(math.Floor(float64(p.size) / 2))
	if h < 4800 {
		return 4800
	}
	return h
}

func (p *plainWindow) lost() {
	p.threshold = p.half()
	p.size, p.count = p.threshold, 0
}

func (p *plainWindow) late() {
	p.threshold = p.half()
	p.size, p.count = 1200, 0
}

func (p *plainWindow) rest() {
	if h := p.half(); h < p.size {
		p.size = h
	}
	p.count = 0
}

func (p *plainWindow) room(flight int) int64 {
	if flight < 0 {
		flight = 0
	}
	if int64(flight) > p.size {
		return 0
	}
	return p.size - int64(flight)
}

// tells: does a window tell these numbers? It is asked twice, as asking changes nothing.
func tells(t *testing.T, name string, w *Window, size, threshold, count int) {
	t.Helper()
	for range 2 {
		if a, b, c := w.Size(); a != size || b != threshold || c != count {
			t.Errorf("%s: Size %d, %d, %d, want %d, %d, %d", name, a, b, c, size, threshold, count)
		}
		if got := w.Room(0); got != size {
			t.Errorf("%s: Room(0) %d, want %d", name, got, size)
		}
	}
}

// raise a window to a size that is not less than its own. The first step takes what no whole number of segments
// leads to, as above the threshold there are whole ones alone. So many steps are enough for any size.
func raise(w *Window, to int) {
	for range 1000 {
		size, threshold, _ := w.Size()
		if size >= to {
			return
		}
		if size > threshold {
			w.Acked(size, size, false)
		} else {
			w.Acked((to-size-1)%1200+1, size, true)
		}
	}
}

// at is a window of a size, a threshold from 4800 to 2^19, and a count that is 0 unless the size is above the threshold.
func at(t *testing.T, size, threshold, count int) *Window {
	t.Helper()
	w := New()
	raise(w, 2*threshold)
	w.Late()
	raise(w, size)
	w.Acked(count, 0, false)
	tells(t, "a window to begin with", w, size, threshold, count)
	return w
}

// fresh is a window of a size from 4380 on whose threshold was never set.
func fresh(t *testing.T, size int) *Window {
	t.Helper()
	w := New()
	raise(w, size)
	tells(t, "a fresh window", w, size, 1<<20, 0)
	return w
}

// The chapter's examples

func TestExamples(t *testing.T) {
	w := New()
	w.Acked(1000, 4380, true)
	tells(t, "after Acked", w, 5380, 1<<20, 0)
	w.Lost()
	tells(t, "after Lost", w, 4800, 4800, 0)
	w.Late()
	tells(t, "after Late", w, 1200, 4800, 0)
	w.Acked(9000, 1200, true)
	tells(t, "after a segment", w, 2400, 4800, 0)
}

func TestNew(t *testing.T) {
	tells(t, "a new one", New(), 4380, 1048576, 0)
}

// P11.1: the size is at most the threshold

// The numbers of bytes at the limits, and how far a size up to its threshold grows by them.
var steps = []struct{ n, grows int }{
	{math.MinInt, 0}, {math.MinInt32, 0}, {-1200, 0}, {-1, 0}, {0, 0}, {1, 1}, {2, 2}, {599, 599}, {1199, 1199},
	{1200, 1200}, {1201, 1200}, {2400, 1200}, {9000, 1200}, {1 << 20, 1200}, {1 << 30, 1200}, {1<<30 + 1, 1200},
	{math.MaxInt32, 1200}, {math.MaxInt, 1200},
}

func TestBelowThreshold(t *testing.T) {
	for _, size := range []int{1200, 1201, 2400, 4799, 4800} {
		for _, x := range steps {
			for _, flight := range []int{size, size + 1, 1 << 20, 1 << 30, 1<<30 + 1, math.MaxInt} {
				w := at(t, size, 4800, 0)
				w.Acked(x.n, flight, true)
				tells(t, "a full window", w, size+x.grows, 4800, 0)
			}
		}
	}
}

// Where the mark stays, or less was in flight than the size, nothing changes: no byte is counted either.
func TestBelowThresholdStays(t *testing.T) {
	for _, size := range []int{1200, 2400, 4800} {
		for _, x := range steps {
			for _, flight := range []int{math.MinInt, -1, 0, 1, size - 1} {
				w := at(t, size, 4800, 0)
				w.Acked(x.n, flight, true)
				tells(t, "the window was not full", w, size, 4800, 0)
			}
			for _, flight := range []int{math.MinInt, 0, size - 1, size, size + 1, math.MaxInt} {
				w := at(t, size, 4800, 0)
				w.Acked(x.n, flight, false)
				tells(t, "the mark stayed", w, size, 4800, 0)
			}
		}
	}
}

// A size at the threshold grows past it by a whole segment; from there on it is the count that does it.
func TestPastThreshold(t *testing.T) {
	w := at(t, 4799, 4800, 0)
	w.Acked(1200, 4799, true)
	tells(t, "past it", w, 5999, 4800, 0)
	w.Acked(1200, 5999, true)
	tells(t, "a count", w, 5999, 4800, 1200)
	w = at(t, 4801, 4800, 0)
	w.Acked(1200, 4801, true)
	tells(t, "a count one byte past it", w, 4801, 4800, 1200)
}

// P11.1: the size is greater than the threshold

// The numbers are worked out by hand, from a size of 6000 and a threshold of 4800.
func TestAboveThreshold(t *testing.T) {
	for _, x := range []struct {
		name               string
		count, n, flight   int
		wantSize, wantLeft int
	}{
		{"no byte", 0, 0, 6000, 6000, 0},
		{"fewer than none", 7, -1, 6000, 6000, 7},
		{"as few as there are", 7, math.MinInt, 6000, 6000, 7},
		{"a byte", 0, 1, 6000, 6000, 1},
		{"one too few", 0, 5999, 6000, 6000, 5999},
		{"as many as the size", 0, 6000, 6000, 7200, 0},
		{"one more", 0, 6001, 6000, 7200, 1},
		{"one too few with the count", 4000, 1999, 6000, 6000, 5999},
		{"enough with the count", 4000, 2000, 6000, 7200, 0},
		{"more with the count", 4000, 2345, 6000, 7200, 345},
		{"the window was not full", 4000, 2345, 5999, 6000, 6345},
		{"nothing in flight", 0, 6000, 0, 6000, 6000},
		{"less than nothing in flight", 0, 6000, -1, 6000, 6000},
		{"as little as there is", 0, 6000, math.MinInt, 6000, 6000},
		{"more than full", 0, 6000, 6001, 7200, 0},
		{"more than counts", 0, 6000, 1<<30 + 1, 7200, 0},
		{"as much as there is", 0, 6000, math.MaxInt, 7200, 0},
		{"enough was there", 6000, 0, 6000, 7200, 0},
		{"enough was there, and fewer than none come", 6000, -5, 6000, 7200, 0},
		{"enough for two stays for the next call", 0, 13200, 6000, 7200, 7200},
		{"one less than the most", 0, 1<<30 - 1, 0, 6000, 1<<30 - 1},
		{"the most", 0, 1 << 30, 0, 6000, 1 << 30},
		{"one more than the most", 0, 1<<30 + 1, 0, 6000, 1 << 30},
		{"far more than the most", 0, math.MaxInt, 0, 6000, 1 << 30},
		{"far more than the most, and a full window", 5, math.MaxInt, 6000, 7200, 1<<30 + 5 - 6000},
	} {
		for _, on := range []bool{false, true} {
			w := at(t, 6000, 4800, x.count)
			w.Acked(x.n, x.flight, on)
			tells(t, x.name, w, x.wantSize, 4800, x.wantLeft)
		}
	}
}

// Each call lets the size grow by one segment at most, and the count falls by the size that was.
func TestCountIsSpentStepByStep(t *testing.T) {
	w := at(t, 6000, 4800, 6000+7200+8400+5)
	for _, x := range []struct{ size, count int }{{7200, 15605}, {8400, 8405}, {9600, 5}, {9600, 5}} {
		w.Acked(0, 1<<20, false)
		tells(t, "a step", w, x.size, 4800, x.count)
	}
}

// A count has no limit of its own.
func TestCountGrowsOn(t *testing.T) {
	w := at(t, 6000, 4800, 0)
	for range 1 << 16 {
		w.Acked(math.MaxInt, 5999, true)
	}
	tells(t, "counted", w, 6000, 4800, 1<<46)
}

// The size never exceeds 2^20

func TestMostBelowThreshold(t *testing.T) {
	for _, x := range []struct{ size, n, want int }{
		{1<<20 - 1200, 1199, 1<<20 - 1},
		{1<<20 - 1200, 1200, 1 << 20},
		{1<<20 - 1199, 1199, 1 << 20},
		{1<<20 - 1199, 1200, 1 << 20},
		{1<<20 - 1, 1, 1 << 20},
		{1<<20 - 1, 2, 1 << 20},
		{1<<20 - 1, math.MaxInt, 1 << 20},
		{1 << 20, 1200, 1 << 20},
		{1 << 20, math.MaxInt, 1 << 20},
	} {
		w := fresh(t, x.size)
		w.Acked(x.n, x.size, true)
		tells(t, "near the most", w, x.want, 1<<20, 0)
	}
}

// The most that a size can be is still up to the first threshold, so that nothing is counted there.
func TestMostIsNotAboveThreshold(t *testing.T) {
	w := fresh(t, 1<<20)
	w.Acked(5000, 0, false)
	tells(t, "not full", w, 1<<20, 1<<20, 0)
	w.Acked(1<<20, 1<<20, true)
	tells(t, "full", w, 1<<20, 1<<20, 0)
}

// At the most the count falls all the same.
func TestMostAboveThreshold(t *testing.T) {
	for _, x := range []struct{ size, want int }{
		{1<<20 - 1201, 1<<20 - 1}, {1<<20 - 1200, 1 << 20}, {1<<20 - 1199, 1 << 20}, {1<<20 - 1, 1 << 20}, {1 << 20, 1 << 20},
	} {
		w := at(t, x.size, 1<<19, 3)
		w.Acked(x.size-4, x.size, true)
		tells(t, "one byte too few", w, x.size, 1<<19, x.size-1)
		w.Acked(8, x.size-1, true)
		tells(t, "not full", w, x.size, 1<<19, x.size+7)
		w.Acked(0, x.size, false)
		tells(t, "full", w, x.want, 1<<19, 7)
	}
}

// P11.2

// sizes, and what half of each is, at least four segments.
var sizes = []struct{ size, half int }{
	{1200, 4800}, {1201, 4800}, {4380, 4800}, {4799, 4800}, {4800, 4800}, {4801, 4800}, {5999, 4800}, {9599, 4800},
	{9600, 4800}, {9601, 4800}, {9602, 4801}, {9603, 4801}, {9604, 4802}, {65537, 32768}, {1<<20 - 1, 1<<19 - 1},
	{1 << 20, 1 << 19},
}

// each size in windows of several thresholds, with a count where there can be one.
func each(t *testing.T, do func(w *Window, size, threshold, half int)) {
	for _, x := range sizes {
		for _, threshold := range []int{4800, 4801, 60000, 1 << 19} {
			count := 0
			if x.size > threshold {
				count = 54321
			}
			do(at(t, x.size, threshold, count), x.size, threshold, x.half)
		}
		if x.size >= 4380 {
			do(fresh(t, x.size), x.size, 1<<20, x.half)
		}
	}
}

func TestLost(t *testing.T) {
	each(t, func(w *Window, size, threshold, half int) {
		w.Lost()
		tells(t, "after Lost", w, half, half, 0)
	})
}

func TestLate(t *testing.T) {
	each(t, func(w *Window, size, threshold, half int) {
		w.Late()
		tells(t, "after Late", w, 1200, half, 0)
	})
}

// The threshold stays, and a size of less than four segments, too.
func TestRest(t *testing.T) {
	each(t, func(w *Window, size, threshold, half int) {
		w.Rest()
		tells(t, "after Rest", w, min(size, half), threshold, 0)
	})
}

// A size of a segment grows to four of them when a packet is lost: so the chapter's words ask.
func TestLostAfterLate(t *testing.T) {
	w := New()
	w.Late()
	w.Lost()
	tells(t, "grown", w, 4800, 4800, 0)
}

// They go on from the size alone, over and over.
func TestHalvedOverAndOver(t *testing.T) {
	lost, rest := fresh(t, 100001), fresh(t, 100001)
	for _, half := range []int{50000, 25000, 12500, 6250, 4800, 4800, 4800} {
		lost.Lost()
		tells(t, "Lost", lost, half, half, 0)
		rest.Rest()
		tells(t, "Rest", rest, half, 1<<20, 0)
	}
	late := fresh(t, 100001)
	late.Late()
	tells(t, "Late", late, 1200, 50000, 0)
	late.Late()
	tells(t, "Late again", late, 1200, 4800, 0)
}

// After a rest below the threshold nothing is counted till the size is above it again.
func TestRestBelowThreshold(t *testing.T) {
	w := at(t, 10000, 9000, 9999)
	w.Rest()
	tells(t, "at rest", w, 5000, 9000, 0)
	w.Acked(1200, 5000, false)
	tells(t, "the mark stayed", w, 5000, 9000, 0)
	w.Acked(700, 5000, true)
	tells(t, "grown by what came", w, 5700, 9000, 0)
}

// P11.3

func TestRoom(t *testing.T) {
	for _, size := range []int{1200, 1201, 4800, 6000} {
		w := at(t, size, 4800, 0)
		for flight := 0; flight <= size; flight++ {
			if got := w.Room(flight); got != size-flight {
				t.Errorf("size %d: Room(%d) %d", size, flight, got)
			}
		}
		for _, flight := range []int{size + 1, size + 2, 1 << 20, 1 << 30, 1<<30 + 1, math.MaxInt32, math.MaxInt} {
			if got := w.Room(flight); got != 0 {
				t.Errorf("size %d: Room(%d) %d", size, flight, got)
			}
		}
		for _, flight := range []int{-1, -2, -1200, math.MinInt32, math.MinInt + size, math.MinInt} {
			if got := w.Room(flight); got != size {
				t.Errorf("size %d: Room(%d) %d", size, flight, got)
			}
		}
		tells(t, "after it was asked", w, size, 4800, 0)
	}
}

// The count takes no room, nor does the threshold limit it.
func TestRoomIsOfTheSizeAlone(t *testing.T) {
	w := at(t, 6000, 4800, 5999)
	if got := w.Room(1000); got != 5000 {
		t.Errorf("with a count: %d", got)
	}
	if got := fresh(t, 1<<20).Room(1); got != 1<<20-1 {
		t.Errorf("the most: %d", got)
	}
}

// Windows are apart from each other, and each one goes on from a copy by itself.
func TestWindowsApart(t *testing.T) {
	a, b := New(), New()
	a.Acked(100, 4380, true)
	tells(t, "b", b, 4380, 1<<20, 0)
	c := *a
	a.Late()
	tells(t, "c", &c, 4480, 1<<20, 0)
	tells(t, "a", a, 1200, 4800, 0)
	tells(t, "another new one", New(), 4380, 1<<20, 0)
}

// odd numbers of bytes, for arguments.
var odd = []int{math.MinInt, -1200, -1, 0, 1, 1199, 1200, 1201, 1 << 20, 1 << 30, 1<<30 + 1, math.MaxInt}

// chance: a number of bytes around a size, or an odd one.
func chance(r *rand.Rand, size int) int {
	switch r.Intn(4) {
	case 0:
		return odd[r.Intn(len(odd))]
	case 1:
		return size - 1 + r.Intn(3)
	default:
		return r.Intn(2 * size)
	}
}

// sometime: a call of chance on both windows; each falls once in so many calls.
func sometime(r *rand.Rand, w *Window, p *plainWindow, falls int) {
	switch r.Intn(3 * falls) {
	case 0:
		w.Lost()
		p.lost()
	case 1:
		w.Late()
		p.late()
	case 2:
		w.Rest()
		p.rest()
	default:
		n, flight, on := chance(r, int(p.size)), chance(r, int(p.size)), r.Intn(3) > 0
		w.Acked(n, flight, on)
		p.acked(n, flight, on)
	}
}

// P11.1 to P11.3: runs of calls, held against the chapter's words.
func TestRuns(t *testing.T) {
	r := rand.New(rand.NewSource(11))
	for run := range 300 {
		w, p := New(), newPlain()
		falls := []int{1, 2, 5, 30, 200, 2000}[run%6]
		for range 4000 {
			sometime(r, w, p, falls)
			size, threshold, count := w.Size()
			if int64(size) != p.size || int64(threshold) != p.threshold || int64(count) != p.count {
				t.Fatalf("run %d: Size %d, %d, %d, want %d", run, size, threshold, count, *p)
			}
			if size < 1200 || size > 1<<20 || threshold < 4800 || threshold > 1<<20 || count < 0 {
				t.Fatalf("run %d: Size %d, %d, %d", run, size, threshold, count)
			}
			if flight := chance(r, size); int64(w.Room(flight)) != p.room(flight) {
				t.Fatalf("run %d: size %d, Room(%d) %d", run, size, flight, w.Room(flight))
			}
		}
	}
}
