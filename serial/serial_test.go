package serial

import "testing"

const (
	top      = 1<<32 - 1
	topShort = 1<<16 - 1
)

// edges are the numbers around which something changes: the wrap-around, the middle, and some ordinary ones.
var edges = []uint32{
	0, 1, 2, 3, 7, 1000, 65535, 65536, 123456789,
	1<<31 - 2, 1<<31 - 1, 1 << 31, 1<<31 + 1, 1<<31 + 2,
	3000000000, top - 3, top - 2, top - 1, top,
}

// steps is the way from a up to b, worked out in numbers that do not go round.
func steps(a, b uint32) uint64 {
	if b >= a {
		return uint64(b) - uint64(a)
	}
	return 1<<32 - (uint64(a) - uint64(b))
}

// P1.1

func TestDist(t *testing.T) {
	for _, x := range []struct{ a, b, want uint32 }{
		{top, 1, 2}, // the chapter's example
		{5, 7, 2},
		{7, 5, top - 1},
		{0, 0, 0},
		{9, 9, 0},
		{top, top, 0},
		{0, 1, 1},
		{1, 0, top},
		{top, 0, 1},
		{0, top, top},
		{0, 1 << 31, 1 << 31},
		{1 << 31, 0, 1 << 31},
		{1<<31 - 1, 1 << 31, 1},
		{1 << 31, 1<<31 - 1, top},
	} {
		if got := Dist(x.a, x.b); got != x.want {
			t.Errorf("Dist(%d, %d) = %d, want %d", x.a, x.b, got, x.want)
		}
	}
}

func TestDistOfEdges(t *testing.T) {
	for _, a := range edges {
		for _, b := range edges {
			if got := Dist(a, b); uint64(got) != steps(a, b) {
				t.Errorf("Dist(%d, %d) = %d, want %d", a, b, got, steps(a, b))
			}
			if a+Dist(a, b) != b {
				t.Errorf("%d and Dist(%d, %d) more do not lead to %d", a, a, b, b)
			}
		}
	}
}

// P1.2

func TestLess(t *testing.T) {
	for _, x := range []struct {
		a, b uint32
		want bool
	}{
		{top, 0, true},      // the chapter's examples
		{0, 1 << 31, false}, // half the range apart
		{1 << 31, 0, false},
		{0, 1, true},
		{1, 0, false},
		{0, top, false},
		{5, 5, false},
		{0, 0, false},
		{top, top, false},
		{1 << 31, 1 << 31, false},
		{0, 1<<31 - 1, true},
		{1<<31 - 1, 0, false},
		{0, 1<<31 + 1, false},
		{1<<31 + 1, 0, true},
		{1 << 31, top, true},
		{top, 1<<31 - 1, false}, // half the range apart
		{1<<31 - 1, top, false},
		{top, 1<<31 - 2, true},
		{1<<31 - 1, 1 << 31, true},
		{1 << 31, 1<<31 - 1, false},
		{1000, 70000, true},
		{70000, 1000, false},
	} {
		if got := Less(x.a, x.b); got != x.want {
			t.Errorf("Less(%d, %d) = %v, want %v", x.a, x.b, got, x.want)
		}
	}
}

func TestLessOfEdges(t *testing.T) {
	for _, a := range edges {
		for _, b := range edges {
			d := steps(a, b)
			want := d >= 1 && d <= 1<<31-1
			if got := Less(a, b); got != want {
				t.Errorf("Less(%d, %d) = %v, want %v", a, b, got, want)
			}
		}
	}
}

// Wherever a way begins, the same number of steps has the same answer.
func TestLessByDistance(t *testing.T) {
	for _, a := range edges {
		for _, x := range []struct {
			d    uint32
			want bool
		}{{0, false}, {1, true}, {65536, true}, {1<<31 - 1, true}, {1 << 31, false}, {1<<31 + 1, false}, {top, false}} {
			if got := Less(a, a+x.d); got != x.want {
				t.Errorf("Less(%d, %d) = %v, want %v", a, a+x.d, got, x.want)
			}
		}
	}
}

func TestLessShort(t *testing.T) {
	for _, x := range []struct {
		a, b uint16
		want bool
	}{
		{topShort, 0, true},
		{0, topShort, false},
		{0, 1, true},
		{1, 0, false},
		{0, 0, false},
		{5, 5, false},
		{topShort, topShort, false},
		{0, 1<<15 - 1, true},
		{1<<15 - 1, 0, false},
		{0, 1 << 15, false}, // half the range apart
		{1 << 15, 0, false},
		{0, 1<<15 + 1, false},
		{1<<15 + 1, 0, true},
		{topShort, 1<<15 - 1, false}, // half the range apart
		{topShort, 1<<15 - 2, true},
		{1<<15 - 1, 1 << 15, true},
		{1 << 15, 1<<15 - 1, false},
		{1000, 30000, true},
		{30000, 1000, false},
	} {
		if got := LessShort(x.a, x.b); got != x.want {
			t.Errorf("LessShort(%d, %d) = %v, want %v", x.a, x.b, got, x.want)
		}
	}
}

func TestLessShortOfAllDistances(t *testing.T) {
	for _, a := range []uint16{0, 1, 1000, 1<<15 - 1, 1 << 15, 1<<15 + 1, topShort - 1, topShort} {
		for d := range 1 << 16 {
			b := uint16((int(a) + d) % (1 << 16))
			want := d >= 1 && d <= 1<<15-1
			if got := LessShort(a, b); got != want {
				t.Fatalf("LessShort(%d, %d) = %v, want %v", a, b, got, want)
			}
		}
	}
}

// P1.3

func TestLater(t *testing.T) {
	for _, x := range []struct{ a, b, want uint32 }{
		{1, 2, 2},
		{2, 1, 2},
		{5, 5, 5},
		{0, 0, 0},
		{top, 2, 2},
		{2, top, 2},
		{top, 0, 0},
		{0, top, 0},
		{0, 1<<31 - 1, 1<<31 - 1},
		{1<<31 - 1, 0, 1<<31 - 1},
		{0, 1 << 31, 0}, // neither is less: the first one
		{1 << 31, 0, 1 << 31},
		{top, 1<<31 - 1, top},
		{1<<31 - 1, top, 1<<31 - 1},
		{0, 1<<31 + 1, 0},
		{1<<31 + 1, 0, 0},
	} {
		if got := Later(x.a, x.b); got != x.want {
			t.Errorf("Later(%d, %d) = %d, want %d", x.a, x.b, got, x.want)
		}
	}
}

func TestLaterOfEdges(t *testing.T) {
	for _, a := range edges {
		for _, b := range edges {
			want := a
			if d := steps(a, b); d >= 1 && d <= 1<<31-1 {
				want = b
			}
			if got := Later(a, b); got != want {
				t.Errorf("Later(%d, %d) = %d, want %d", a, b, got, want)
			}
		}
	}
}

func TestIn(t *testing.T) {
	for _, x := range []struct {
		x, from, to uint32
		want        bool
	}{
		{0, top - 1, 3, true}, // the chapter's examples
		{4, top - 1, 3, false},
		{top - 1, top - 1, 3, true}, // both ends
		{3, top - 1, 3, true},
		{top, top - 1, 3, true},
		{top - 2, top - 1, 3, false},
		{1 << 31, top - 1, 3, false},
		{3, 3, 3, true}, // a way of one number
		{2, 3, 3, false},
		{4, 3, 3, false},
		{10, 10, 20, true},
		{15, 10, 20, true},
		{20, 10, 20, true},
		{9, 10, 20, false},
		{21, 10, 20, false},
		{0, 10, 20, false},
		{top, 10, 20, false},
		{1 << 31, 0, 1 << 31, true}, // ways of half the range, and longer ones
		{1<<31 + 1, 0, 1 << 31, false},
		{1 << 31, 0, top, true},
		{1 << 31, 5, 3, true},
		{4, 5, 3, false},
		{3, 5, 3, true},
		{5, 5, 3, true},
		{4, 5, 4, true}, // a way through all numbers
		{5, 5, 4, true},
		{1 << 31, 5, 4, true},
		{0, 0, top, true},
		{top, 0, top, true},
	} {
		if got := In(x.x, x.from, x.to); got != x.want {
			t.Errorf("In(%d, %d, %d) = %v, want %v", x.x, x.from, x.to, got, x.want)
		}
	}
}

func TestInOfEdges(t *testing.T) {
	for _, from := range edges {
		for _, to := range edges {
			for _, x := range edges {
				want := steps(from, x) <= steps(from, to)
				if got := In(x, from, to); got != want {
					t.Errorf("In(%d, %d, %d) = %v, want %v", x, from, to, got, want)
				}
			}
		}
	}
}

// Short ways are walked, one step at a time, and with each the numbers next to them.
func TestInByWalking(t *testing.T) {
	for _, from := range edges {
		for length := range uint32(12) {
			to := from + length
			for d := range uint32(20) {
				x := from - 4 + d
				if got, want := In(x, from, to), onWay(x, from, to); got != want {
					t.Errorf("In(%d, %d, %d) = %v, want %v", x, from, to, got, want)
				}
			}
		}
	}
}

func onWay(x, from, to uint32) bool {
	for n := from; ; n++ {
		if n == x {
			return true
		}
		if n == to {
			return false
		}
	}
}
