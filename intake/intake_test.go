package intake

import (
	"bytes"
	"fmt"
	"math"
	"math/rand"
	"slices"
	"strings"
	"testing"

	"flume/api"
	"flume/frag"
	"flume/join"
)

// both kinds of intakes.
var both = []bool{true, false}

// marks at which numbers go round, or their halves meet, and one at which nothing does.
var marks = []uint32{9, 0, math.MaxUint32, math.MaxUint32 - 1, math.MaxUint32 - 4096, math.MaxUint32 - 2000, 1<<31 - 1, 1 << 31, 1<<31 - 4096}

// piece of a message of its own: B begins, E ends, U is loose.
func piece(inter bool, tsn uint32, flags string, stream uint16, mid uint32, body string) api.Chunk {
	c := api.Chunk{Kind: api.Data, Tsn: tsn, Stream: stream, Mid: mid, Ppid: 51, Body: []byte(body)}
	if inter {
		c.Kind = api.IData
	}
	c.Begin, c.End, c.Loose = strings.Contains(flags, "B"), strings.Contains(flags, "E"), strings.Contains(flags, "U")
	return c
}

// loose is a whole message that is ready as soon as it comes.
func loose(inter bool, tsn uint32, body string) api.Chunk {
	return piece(inter, tsn, "BEU", 1, tsn, body)
}

// stuck is a begin without an end: its bytes stay in the joiner.
func stuck(inter bool, tsn uint32, size int) api.Chunk {
	return piece(inter, tsn, "BU", 1, tsn, strings.Repeat("s", size))
}

func forward(inter bool, tsn uint32, skips ...api.Skip) api.Chunk {
	c := api.Chunk{Kind: api.Forward, Tsn: tsn, Skips: skips}
	if inter {
		c.Kind = api.IForward
	}
	return c
}

// comes: does each of these give this news?
func comes(t *testing.T, n *Intake, want api.News, cs ...api.Chunk) {
	t.Helper()
	for _, c := range cs {
		if got := n.Data(c); got != want {
			t.Errorf("mark %d: Data with Tsn %d, kind %d, %d bytes = %d, want %d", n.Mark(), c.Tsn, c.Kind, len(c.Body), got, want)
		}
	}
}

// takes: are the messages with these bodies ready, and no other?
func takes(t *testing.T, n *Intake, want ...string) {
	t.Helper()
	for _, w := range want {
		if m, ok := n.Take(); !ok || string(m.Body) != w {
			t.Errorf("Take = %.100q, %v, want %.100q", m.Body, ok, w)
		}
	}
	if m, ok := n.Take(); ok || fmt.Sprint(m) != fmt.Sprint(api.Message{}) {
		t.Errorf("Take = %.100q, %v, want none", m.Body, ok)
	}
}

// tells: is a Sack of these, and no other field?
func tells(t *testing.T, n *Intake, mark uint32, held int, gaps []api.Gap, dups []uint32) {
	t.Helper()
	want := api.Chunk{Kind: api.Sack, Tsn: mark, Window: uint32(max(0, 131072-held)), Gaps: gaps, Dups: dups}
	if got := n.Sack(); fmt.Sprint(got) != fmt.Sprint(want) {
		t.Errorf("Sack = %v, want %v", got, want)
	}
	if got := n.Mark(); got != mark {
		t.Errorf("Mark = %d, want %d", got, mark)
	}
}

// The chapter's example

func TestExample(t *testing.T) {
	n := New(9, true)
	c := loose(true, 11, "x")
	comes(t, n, api.Fresh, c)
	comes(t, n, api.Twice, c)
	tells(t, n, 9, 1, []api.Gap{{From: 2, To: 2}}, []uint32{11})
	tells(t, n, 9, 1, []api.Gap{{From: 2, To: 2}}, nil)
}

// P14.1: a new intake, and what it refuses

func TestNew(t *testing.T) {
	for _, inter := range both {
		for _, mark := range marks {
			n := New(mark, inter)
			tells(t, n, mark, 0, nil, nil)
			takes(t, n)
			comes(t, n, api.Twice, loose(inter, mark, "x"))
			comes(t, n, api.Fresh, loose(inter, mark+1, "y"))
			tells(t, n, mark+1, 1, nil, []uint32{mark})
			takes(t, n, "y")
		}
	}
}

// Another kind is Far wherever its number is, also where that is known, and it is in no list.
func TestOtherKinds(t *testing.T) {
	for kind := range 256 {
		for _, inter := range both {
			n := New(9, inter)
			comes(t, n, api.Fresh, loose(inter, 12, "a"))
			for _, tsn := range []uint32{9, 10, 11, 12, 13, 5000} {
				c := loose(inter, tsn, "b")
				if int(c.Kind) == kind {
					continue
				}
				c.Kind = api.ChunkKind(kind)
				comes(t, n, api.Far, c)
			}
			tells(t, n, 9, 1, []api.Gap{{From: 3, To: 3}}, nil)
			takes(t, n, "a")
		}
	}
}

func TestNoBody(t *testing.T) {
	for _, inter := range both {
		for _, flags := range []string{"BE", "BEU", "B", "E"} {
			n := New(9, inter)
			comes(t, n, api.Fresh, loose(inter, 12, "a"))
			for _, tsn := range []uint32{9, 10, 11, 12, 13, 5000} {
				c := piece(inter, tsn, flags, 1, 0, "")
				comes(t, n, api.Far, c)
				c.Body = nil
				comes(t, n, api.Far, c)
				c.Body = make([]byte, 0, 9)
				comes(t, n, api.Far, c)
			}
			tells(t, n, 9, 1, []api.Gap{{From: 3, To: 3}}, nil)
			takes(t, n, "a")
		}
		n := New(9, inter)
		comes(t, n, api.Fresh, loose(inter, 10, "\x00"))
		takes(t, n, "\x00")
	}
}

// From the mark on: what is up to 4096 after it is Fresh, what is more is Far, what is not after it is Twice.
func TestHowFar(t *testing.T) {
	for _, inter := range both {
		for _, mark := range marks {
			for _, x := range []struct {
				ahead uint32
				want  api.News
			}{
				{0, api.Twice}, {1, api.Fresh}, {2, api.Fresh}, {3, api.Fresh}, {4095, api.Fresh}, {4096, api.Fresh},
				{4097, api.Far}, {4098, api.Far}, {65536, api.Far}, {1<<31 - 2, api.Far}, {1<<31 - 1, api.Far},
				{1 << 31, api.Twice}, {1<<31 + 1, api.Twice}, {math.MaxUint32 - 4096, api.Twice}, {math.MaxUint32, api.Twice},
			} {
				n := New(mark, inter)
				comes(t, n, x.want, loose(inter, mark+x.ahead, "x"))
				switch {
				case x.want == api.Twice:
					tells(t, n, mark, 0, nil, []uint32{mark + x.ahead})
				case x.want == api.Far:
					tells(t, n, mark, 0, nil, nil)
				case x.ahead == 1:
					tells(t, n, mark+1, 1, nil, nil)
				default:
					tells(t, n, mark, 1, []api.Gap{{From: uint16(x.ahead), To: uint16(x.ahead)}}, nil)
				}
			}
		}
	}
}

// What is refused as too far leaves nothing behind, so that it is Fresh when the mark is nearer.
func TestFarThenNear(t *testing.T) {
	for _, inter := range both {
		n := New(9, inter)
		comes(t, n, api.Far, loose(inter, 9+4097, "far"))
		tells(t, n, 9, 0, nil, nil)
		takes(t, n)
		comes(t, n, api.Fresh, loose(inter, 10, "next"))
		comes(t, n, api.Fresh, loose(inter, 9+4097, "far"))
		takes(t, n, "next", "far")
	}
}

// P14.1: the window

// The last byte for which there is room is taken, none more.
func TestWindowFull(t *testing.T) {
	for _, inter := range both {
		for _, mark := range marks {
			n := New(mark, inter)
			comes(t, n, api.Fresh, stuck(inter, mark+2, 131071))
			comes(t, n, api.Far, stuck(inter, mark+4, 2))
			tells(t, n, mark, 131071, []api.Gap{{From: 2, To: 2}}, nil)
			comes(t, n, api.Fresh, stuck(inter, mark+4, 1))
			comes(t, n, api.Far, stuck(inter, mark+6, 1), stuck(inter, mark+3, 1), stuck(inter, mark+4096, 1))
			tells(t, n, mark, 131072, []api.Gap{{From: 2, To: 2}, {From: 4, To: 4}}, nil)
		}
	}
}

// One body alone can be too much.
func TestWindowOneBody(t *testing.T) {
	for _, inter := range both {
		for _, size := range []int{131072, 131073, 200000} {
			want := api.Fresh
			if size > 131072 {
				want = api.Far
			}
			n := New(9, inter)
			comes(t, n, want, stuck(inter, 11, size))
			takes(t, n)
			n = New(9, inter)
			comes(t, n, api.Fresh, stuck(inter, 10, size))
			tells(t, n, 10, size, nil, nil)
			comes(t, n, api.Far, stuck(inter, 12, 1+max(0, 131072-size)))
		}
	}
}

// Directly after the mark there is always room, and the window is never told as less than none.
func TestWindowNext(t *testing.T) {
	for _, inter := range both {
		for _, mark := range marks {
			n := New(mark, inter)
			held := 131072
			comes(t, n, api.Fresh, stuck(inter, mark+5, held))
			for i := range uint32(4) {
				comes(t, n, api.Far, stuck(inter, mark+i+6, 1))
				if i < 3 {
					comes(t, n, api.Far, stuck(inter, mark+i+2, 1))
				}
				comes(t, n, api.Fresh, stuck(inter, mark+i+1, 1000))
				held += 1000
			}
			tells(t, n, mark+5, held, nil, nil)
			comes(t, n, api.Fresh, stuck(inter, mark+6, 1))
			comes(t, n, api.Far, stuck(inter, mark+8, 1))
			tells(t, n, mark+6, held+1, nil, nil)
		}
	}
}

// What is known needs no room: it is Twice, and is in the list.
func TestWindowTwice(t *testing.T) {
	for _, inter := range both {
		for _, mark := range marks {
			n := New(mark, inter)
			comes(t, n, api.Fresh, stuck(inter, mark+2, 131000), stuck(inter, mark+3, 72), stuck(inter, mark+1, 500))
			known := []uint32{mark, mark + 1, mark + 2, mark + 3, mark - 1, mark - 1<<30, mark + 3 + 1<<31}
			for _, tsn := range known {
				comes(t, n, api.Twice, stuck(inter, tsn, 9))
			}
			tells(t, n, mark+3, 131572, nil, known)
			n = New(mark, inter)
			comes(t, n, api.Fresh, stuck(inter, mark+2, 131072))
			comes(t, n, api.Twice, stuck(inter, mark+2, 9), stuck(inter, mark+1<<31, 9))
			tells(t, n, mark, 131072, []api.Gap{{From: 2, To: 2}}, []uint32{mark + 2, mark + 1<<31})
		}
	}
}

// What is too far is so whether there is room or not, and where there is none it leaves nothing behind.
func TestWindowAgain(t *testing.T) {
	for _, inter := range both {
		n := New(9, inter)
		comes(t, n, api.Fresh, loose(inter, 11, strings.Repeat("a", 131072)))
		comes(t, n, api.Far, loose(inter, 13, "b"), loose(inter, 13, "b"), loose(inter, 9000, "b"))
		tells(t, n, 9, 131072, []api.Gap{{From: 2, To: 2}}, nil)
		takes(t, n, strings.Repeat("a", 131072))
		tells(t, n, 9, 0, []api.Gap{{From: 2, To: 2}}, nil)
		comes(t, n, api.Fresh, loose(inter, 13, "b"))
		takes(t, n, "b")
	}
}

// All that the joiner holds counts: fragments, messages that wait, and those that are ready.
func TestWindowCounts(t *testing.T) {
	for _, inter := range both {
		n := New(9, inter)
		comes(t, n, api.Fresh, stuck(inter, 20, 40000), piece(inter, 22, "BE", 2, 1, strings.Repeat("w", 40000)), loose(inter, 24, strings.Repeat("r", 40000)))
		tells(t, n, 9, 120000, []api.Gap{{From: 11, To: 11}, {From: 13, To: 13}, {From: 15, To: 15}}, nil)
		comes(t, n, api.Far, loose(inter, 26, strings.Repeat("x", 11073)))
		takes(t, n, strings.Repeat("r", 40000))
		comes(t, n, api.Fresh, loose(inter, 26, strings.Repeat("x", 51072)))
		comes(t, n, api.Far, loose(inter, 28, "y"))
		n.Reset(2)
		comes(t, n, api.Far, loose(inter, 28, strings.Repeat("y", 40001)))
		comes(t, n, api.Fresh, loose(inter, 28, strings.Repeat("y", 40000)))
	}
}

// P14.1: Twice

// The list has the numbers in the order in which they came, one as often as it came, and ends with the sixteenth.
func TestTwiceList(t *testing.T) {
	for _, inter := range both {
		n := New(9, inter)
		comes(t, n, api.Fresh, loose(inter, 11, "a"), loose(inter, 13, "b"))
		var want []uint32
		for i := range 40 {
			tsn := []uint32{11, 13, 9, 3, 13, 11, 9 + 1<<31}[i%7]
			comes(t, n, api.Twice, loose(inter, tsn, "again"))
			if i < 16 {
				want = append(want, tsn)
			}
		}
		gaps := []api.Gap{{From: 2, To: 2}, {From: 4, To: 4}}
		tells(t, n, 9, 2, gaps, want)
		tells(t, n, 9, 2, gaps, nil)
		comes(t, n, api.Twice, loose(inter, 13, "again"))
		tells(t, n, 9, 2, gaps, []uint32{13})
		takes(t, n, "a", "b")
	}
}

// Exactly sixteen.
func TestTwiceLimit(t *testing.T) {
	for count := range 20 {
		n := New(99, true)
		var want []uint32
		for i := range uint32(count) {
			comes(t, n, api.Twice, loose(true, 99-i, "x"))
			want = append(want, 99-i)
		}
		tells(t, n, 99, 0, nil, want[:min(count, 16)])
	}
}

// What comes twice has no effect on messages, whatever else it has.
func TestTwiceNothing(t *testing.T) {
	for _, inter := range both {
		n := New(9, inter)
		comes(t, n, api.Fresh, piece(inter, 10, "B", 1, 0, "a"))
		comes(t, n, api.Twice, piece(inter, 10, "BE", 1, 0, "x"), piece(inter, 9, "BEU", 1, 0, "y"), piece(inter, 10, "BEU", 7, 5, "z"))
		takes(t, n)
		end := piece(inter, 11, "E", 1, 0, "b")
		end.Frag = 1
		comes(t, n, api.Fresh, end)
		takes(t, n, "ab")
		comes(t, n, api.Twice, piece(inter, 10, "BEU", 1, 0, "a"), loose(inter, 11, "b"))
		takes(t, n)
		tells(t, n, 11, 0, nil, []uint32{10, 9, 10, 10, 11})
	}
}

// Neither Far nor Fresh is in the list.
func TestTwiceOnly(t *testing.T) {
	n := New(9, true)
	comes(t, n, api.Fresh, loose(true, 10, "a"), loose(true, 12, "c"))
	comes(t, n, api.Far, loose(true, 8000, "x"), loose(false, 12, "x"), loose(true, 12, ""))
	comes(t, n, api.Twice, loose(true, 12, "c"))
	tells(t, n, 10, 2, []api.Gap{{From: 2, To: 2}}, []uint32{12})
}

// P14.1: Fresh

func TestFreshInAnyOrder(t *testing.T) {
	for _, inter := range both {
		for seed := range int64(50) {
			mark := marks[seed%int64(len(marks))]
			n := New(mark, inter)
			order := rand.New(rand.NewSource(seed)).Perm(60)
			came := map[int]bool{}
			next := 0
			for _, i := range order {
				comes(t, n, api.Fresh, piece(inter, mark+1+uint32(i), "BE", 3, uint32(i), fmt.Sprint(i)))
				came[i] = true
				var want []string
				for ; came[next]; next++ {
					want = append(want, fmt.Sprint(next))
				}
				takes(t, n, want...)
				if n.Mark() != mark+uint32(next) {
					t.Errorf("Mark = %d, want %d", n.Mark(), mark+uint32(next))
				}
			}
			tells(t, n, mark+60, 0, nil, nil)
		}
	}
}

// What the joiner refuses has come nevertheless.
func TestFreshWithoutUse(t *testing.T) {
	for _, inter := range both {
		n := New(9, inter)
		comes(t, n, api.Fresh, piece(inter, 10, "BE", 1, 0, "a"), piece(inter, 12, "BE", 1, 2, "c"))
		takes(t, n, "a")
		comes(t, n, api.Fresh, piece(inter, 11, "BE", 1, 0, "passed"), piece(inter, 14, "BE", 1, 2, "waits already"))
		tells(t, n, 12, 1, []api.Gap{{From: 2, To: 2}}, nil)
		takes(t, n)
		comes(t, n, api.Twice, piece(inter, 11, "BE", 1, 1, "b"), piece(inter, 14, "BE", 1, 1, "b"))
		comes(t, n, api.Fresh, piece(inter, 13, "BE", 1, 1, "b"))
		takes(t, n, "b", "c")
		tells(t, n, 14, 0, nil, []uint32{11, 14})
	}
}

// Fragments that are none: the number counts, the bytes don't.
func TestFreshMalformed(t *testing.T) {
	n := New(9, true)
	late := piece(true, 10, "B", 1, 0, "begins late")
	late.Frag = 1
	far := piece(true, 12, "", 1, 0, "too far")
	far.Frag = 65536
	comes(t, n, api.Fresh, late, piece(true, 11, "E", 1, 0, "no begin"), far)
	tells(t, n, 12, 0, nil, nil)
	takes(t, n)
}

// Data has a limit on its bytes as they come, whether the joiner has a use for them or not.
func TestWindowWithoutUse(t *testing.T) {
	for _, inter := range both {
		n := New(9, inter)
		comes(t, n, api.Fresh, piece(inter, 10, "BE", 1, 0, "a"), stuck(inter, 12, 131071))
		comes(t, n, api.Far, piece(inter, 14, "BE", 1, 0, "passed"))
		takes(t, n, "a")
		comes(t, n, api.Far, piece(inter, 14, "BE", 1, 0, "passed"))
		comes(t, n, api.Fresh, piece(inter, 14, "BE", 1, 0, "p"))
		tells(t, n, 10, 131071, []api.Gap{{From: 2, To: 2}, {From: 4, To: 4}}, nil)
	}
}

// P14.2

func TestForwardKinds(t *testing.T) {
	for kind := range 256 {
		for _, inter := range both {
			n := New(9, inter)
			comes(t, n, api.Fresh, piece(inter, 12, "BE", 1, 1, "waits"), stuck(inter, 14, 7))
			c := forward(inter, 20, api.Skip{Stream: 1, Mid: 0})
			want := int(c.Kind) == kind
			c.Kind = api.ChunkKind(kind)
			if got := n.Forward(c); got != want {
				t.Errorf("inter %v: Forward of kind %d = %v", inter, kind, got)
			}
			switch {
			case !want:
				tells(t, n, 9, 12, []api.Gap{{From: 3, To: 3}, {From: 5, To: 5}}, nil)
				takes(t, n)
			case inter: // no number of a message was named for the fragment
				tells(t, n, 20, 12, nil, nil)
				takes(t, n, "waits")
			default:
				tells(t, n, 20, 5, nil, nil)
				takes(t, n, "waits")
			}
		}
	}
}

func TestForwardNotAfter(t *testing.T) {
	for _, inter := range both {
		for _, mark := range marks {
			for _, ahead := range []uint32{0, math.MaxUint32, math.MaxUint32 - 4096, 1<<31 + 1, 1 << 31} {
				n := New(mark, inter)
				comes(t, n, api.Fresh, piece(inter, mark+3, "BE", 1, 1, "waits"), stuck(inter, mark+5, 7))
				if n.Forward(forward(inter, mark+ahead, api.Skip{Stream: 1, Mid: 0}, api.Skip{Stream: 1, Loose: true, Mid: mark + 5})) {
					t.Errorf("mark %d: Forward to %d ahead = true", mark, ahead)
				}
				tells(t, n, mark, 12, []api.Gap{{From: 3, To: 3}, {From: 5, To: 5}}, nil)
				takes(t, n)
			}
		}
	}
}

// The mark goes to the number, and on over what is known; there is no limit on how far.
func TestForwardMark(t *testing.T) {
	for _, inter := range both {
		for _, mark := range marks {
			for _, x := range []struct {
				ahead, mark uint32
				gaps        []api.Gap
			}{
				{1, 1, []api.Gap{{From: 2, To: 3}, {From: 5, To: 5}}},
				{2, 4, []api.Gap{{From: 2, To: 2}}},
				{3, 4, []api.Gap{{From: 2, To: 2}}},
				{4, 4, []api.Gap{{From: 2, To: 2}}},
				{5, 6, nil},
				{6, 6, nil},
				{7, 7, nil},
				{4096, 4096, nil},
				{4097, 4097, nil},
				{1 << 30, 1 << 30, nil},
				{1<<31 - 1, 1<<31 - 1, nil},
			} {
				n := New(mark, inter)
				comes(t, n, api.Fresh, loose(inter, mark+3, "a"), loose(inter, mark+4, "b"), loose(inter, mark+6, "c"))
				if !n.Forward(forward(inter, mark+x.ahead)) {
					t.Errorf("mark %d: Forward to %d ahead = false", mark, x.ahead)
				}
				tells(t, n, mark+x.mark, 3, x.gaps, nil)
				comes(t, n, api.Twice, loose(inter, mark+1, "late"), loose(inter, mark+x.mark, "late"))
				comes(t, n, api.Fresh, loose(inter, mark+x.mark+1, "next"))
				takes(t, n, "a", "b", "c", "next")
			}
		}
	}
}

// Each Skip is the joiner's, in their order: what they make ready comes in it.
func TestForwardSkips(t *testing.T) {
	for _, inter := range both {
		n := New(9, inter)
		for stream := range uint16(4) {
			comes(t, n, api.Fresh, piece(inter, 11+2*uint32(stream), "BE", stream, 3, fmt.Sprint(stream)))
		}
		if !n.Forward(forward(inter, 10, api.Skip{Stream: 2, Mid: 2}, api.Skip{Stream: 0, Mid: 1}, api.Skip{Stream: 3, Mid: 7}, api.Skip{Stream: 0, Mid: 2})) {
			t.Errorf("Forward = false")
		}
		takes(t, n, "2", "3", "0")
		tells(t, n, 11, 1, []api.Gap{{From: 2, To: 2}, {From: 4, To: 4}, {From: 6, To: 6}}, nil)
		comes(t, n, api.Fresh, piece(inter, 12, "BE", 3, 8, "8"), piece(inter, 14, "BE", 3, 7, "passed"), piece(inter, 16, "BE", 1, 0, "0"))
		takes(t, n, "8", "0")
	}
}

// Fragments of what is skipped are dropped: for IData by the numbers of messages, for Data by their Tsns.
func TestForwardDrops(t *testing.T) {
	n := New(9, true)
	comes(t, n, api.Fresh, piece(true, 10, "BU", 1, 4, "aa"), piece(true, 12, "BU", 1, 5, "bbb"), piece(true, 14, "B", 1, 4, "cccc"))
	n.Forward(forward(true, 15, api.Skip{Stream: 1, Loose: true, Mid: 4}))
	tells(t, n, 15, 7, nil, nil)
	n.Forward(forward(true, 16, api.Skip{Stream: 1, Mid: 4}))
	tells(t, n, 16, 3, nil, nil)

	n = New(math.MaxUint32-1, false)
	comes(t, n, api.Fresh, piece(false, math.MaxUint32, "BU", 1, 4, "aa"), piece(false, 1, "BU", 1, 5, "bbb"), piece(false, 3, "B", 1, 4, "cccc"))
	n.Forward(forward(false, 0))
	tells(t, n, 1, 7, []api.Gap{{From: 2, To: 2}}, nil)
	n.Forward(forward(false, 2))
	tells(t, n, 3, 4, nil, nil)
	n.Forward(forward(false, 4))
	tells(t, n, 4, 0, nil, nil)
}

// Forward makes room in the window; the list of what came twice stays.
func TestForwardRoom(t *testing.T) {
	for _, inter := range both {
		n := New(9, inter)
		comes(t, n, api.Fresh, piece(inter, 11, "B", 1, 0, strings.Repeat("x", 131072)))
		comes(t, n, api.Twice, loose(inter, 11, "again"))
		comes(t, n, api.Far, loose(inter, 14, "more"))
		if !n.Forward(forward(inter, 12, api.Skip{Stream: 1, Mid: 0})) {
			t.Errorf("Forward = false")
		}
		comes(t, n, api.Fresh, loose(inter, 14, "more"))
		tells(t, n, 12, 4, []api.Gap{{From: 2, To: 2}}, []uint32{11})
		takes(t, n, "more")
	}
}

// P14.3

// At most 32 gaps are told, the first ones.
func TestSackGaps(t *testing.T) {
	for _, inter := range both {
		for _, mark := range marks {
			n := New(mark, inter)
			var gaps []api.Gap
			for i := range uint32(40) {
				from := 2 + 100*i
				comes(t, n, api.Fresh, loose(inter, mark+from+1, "x"), loose(inter, mark+from, "y"))
				gaps = append(gaps, api.Gap{From: uint16(from), To: uint16(from + 1)})
				tells(t, n, mark, 2*len(gaps), gaps[:min(len(gaps), 32)], nil)
			}
			comes(t, n, api.Fresh, loose(inter, mark+4096, "z"), loose(inter, mark+1, "w"))
			for i := range gaps {
				gaps[i].From, gaps[i].To = gaps[i].From-3, gaps[i].To-3
			}
			tells(t, n, mark+3, 82, gaps[1:33], nil)
		}
	}
}

// Mark does not take the list, Sack does, also when nothing else has changed.
func TestSackDups(t *testing.T) {
	n := New(9, true)
	comes(t, n, api.Twice, loose(true, 9, "x"))
	n.Mark()
	n.Take()
	n.Reset()
	tells(t, n, 9, 0, nil, []uint32{9})
	for range 3 {
		tells(t, n, 9, 0, nil, nil)
	}
}

func TestSackWindow(t *testing.T) {
	for _, inter := range both {
		for _, size := range []int{1, 2, 65536, 131071, 131072, 131073, 300000} {
			n := New(9, inter)
			comes(t, n, api.Fresh, loose(inter, 10, strings.Repeat("x", size)))
			tells(t, n, 10, size, nil, nil)
			tells(t, n, 10, size, nil, nil)
			if m, ok := n.Take(); !ok || len(m.Body) != size {
				t.Errorf("Take = %d bytes, %v", len(m.Body), ok)
			}
			tells(t, n, 10, 0, nil, nil)
		}
	}
}

func TestTakeAll(t *testing.T) {
	for _, inter := range both {
		n := New(9, inter)
		comes(t, n, api.Fresh, piece(inter, 10, "BE", 5, 1, "b"), piece(inter, 11, "BEU", 6, 7, "a"), piece(inter, 12, "BE", 5, 0, "c"))
		for _, want := range []api.Message{
			{Stream: 6, Loose: true, Mid: 7, Ppid: 51, Body: []byte("a")}, {Stream: 5, Ppid: 51, Body: []byte("c")}, {Stream: 5, Mid: 1, Ppid: 51, Body: []byte("b")},
		} {
			if m, ok := n.Take(); !ok || fmt.Sprint(m) != fmt.Sprint(want) {
				t.Errorf("Take = %+v, %v, want %+v", m, ok, want)
			}
		}
		takes(t, n)
	}
}

// Streams begin anew; numbers of fragments do not.
func TestReset(t *testing.T) {
	for _, inter := range both {
		for _, x := range []struct {
			streams []uint16
			want    string
		}{{nil, "123"}, {[]uint16{}, "123"}, {[]uint16{2}, "2"}, {[]uint16{3, 1}, "13"}, {[]uint16{1, 1, 9}, "1"}, {[]uint16{9}, ""}} {
			n := New(9, inter)
			for stream := range uint32(4) {
				if stream > 0 {
					comes(t, n, api.Fresh, piece(inter, 9+stream, "BE", uint16(stream), 0, "old"), piece(inter, 19+stream, "BE", uint16(stream), 2, "waits"))
				}
			}
			takes(t, n, "old", "old", "old")
			n.Reset(x.streams...)
			tells(t, n, 12, 5*(3-len(x.want)), []api.Gap{{From: 8, To: 10}}, nil)
			var want []string
			for stream := range uint32(4) {
				if stream > 0 {
					comes(t, n, api.Fresh, piece(inter, 29+stream, "BE", uint16(stream), 0, fmt.Sprint(stream)))
				}
				if stream > 0 && strings.Contains(x.want, fmt.Sprint(stream)) {
					want = append(want, fmt.Sprint(stream))
				}
			}
			takes(t, n, want...)
			comes(t, n, api.Twice, piece(inter, 10, "BE", 1, 1, "again"), piece(inter, 20, "BE", 1, 1, "again"))
		}
	}
}

// Rule 5: memory

func TestMemoryApart(t *testing.T) {
	for _, inter := range both {
		n := New(9, inter)
		body := append(make([]byte, 0, 9), "body"...)
		c := loose(inter, 11, "")
		c.Body = body
		comes(t, n, api.Fresh, c)
		copy(body[:9], "XXXXXXXXX")
		for _, tsn := range []uint32{11, 9, 11} {
			comes(t, n, api.Twice, loose(inter, tsn, "x"))
		}
		a := n.Sack()
		want := fmt.Sprint(a)
		comes(t, n, api.Twice, loose(inter, 7, "x"))
		b := n.Sack()
		for i := range b.Gaps[:cap(b.Gaps)] {
			b.Gaps[:cap(b.Gaps)][i] = api.Gap{From: 77, To: 77}
		}
		for i := range b.Dups[:cap(b.Dups)] {
			b.Dups[:cap(b.Dups)][i] = 77
		}
		comes(t, n, api.Twice, loose(inter, 8, "x"))
		if fmt.Sprint(a) != want {
			t.Errorf("an earlier Sack is now %v, want %v", a, want)
		}
		if b.Dups[0] != 77 || b.Gaps[0].From != 77 {
			t.Errorf("Sack writes upon an earlier one: %v", b)
		}
		tells(t, n, 9, 4, []api.Gap{{From: 2, To: 2}}, []uint32{8})
		takes(t, n, "body")
	}
}

func TestArgumentsStay(t *testing.T) {
	for _, inter := range both {
		n := New(9, inter)
		c := loose(inter, 11, "body")
		f := forward(inter, 15, api.Skip{Stream: 1, Mid: 1 << 20}, api.Skip{Stream: 1, Loose: true, Mid: 3})
		streams := []uint16{5, 1}
		before := fmt.Sprint(c, f, streams)
		comes(t, n, api.Fresh, c)
		m, _ := n.Take()
		copy(m.Body, "XXXX")
		n.Forward(f)
		n.Reset(streams...)
		if fmt.Sprint(c, f, streams) != before {
			t.Errorf("arguments are changed: %v", fmt.Sprint(c, f, streams))
		}
	}
}

// Two intakes know nothing of each other.
func TestApart(t *testing.T) {
	a, b := New(9, true), New(9, true)
	comes(t, a, api.Fresh, loose(true, 10, "a"))
	comes(t, a, api.Twice, loose(true, 10, "a"))
	tells(t, b, 9, 0, nil, nil)
	takes(t, b)
}

// plain intake: the chapter's words, with numbers looked at one by one.
type plain struct {
	inter  bool
	mark   uint32
	known  map[uint32]bool // after the mark
	joiner *join.Joiner
	twice  []uint32
}

func (p *plain) after(t uint32) bool {
	return t-p.mark >= 1 && t-p.mark <= 1<<31-1
}

func (p *plain) advance() {
	for p.known[p.mark+1] {
		p.mark++
		delete(p.known, p.mark)
	}
}

func (p *plain) data(c api.Chunk) api.News {
	kind := api.Data
	if p.inter {
		kind = api.IData
	}
	twice := p.known[c.Tsn] || !p.after(c.Tsn)
	if c.Kind != kind || len(c.Body) == 0 || p.after(c.Tsn) && c.Tsn-p.mark > 4096 {
		return api.Far
	}
	if !twice && c.Tsn-p.mark != 1 && p.joiner.Held()+len(c.Body) > 131072 {
		return api.Far
	}
	if twice {
		if len(p.twice) < 16 {
			p.twice = append(p.twice, c.Tsn)
		}
		return api.Twice
	}
	p.known[c.Tsn] = true
	p.advance()
	p.joiner.Put(c)
	return api.Fresh
}

func (p *plain) forward(c api.Chunk) bool {
	kind := api.Forward
	if p.inter {
		kind = api.IForward
	}
	if c.Kind != kind || !p.after(c.Tsn) {
		return false
	}
	for _, s := range c.Skips {
		p.joiner.Skip(s)
	}
	p.joiner.Pass(c.Tsn)
	for p.mark != c.Tsn {
		p.mark++
		delete(p.known, p.mark)
	}
	p.advance()
	return true
}

func (p *plain) sack() api.Chunk {
	c := api.Chunk{Kind: api.Sack, Tsn: p.mark, Window: uint32(max(0, 131072-p.joiner.Held())), Dups: p.twice}
	p.twice = nil
	for d := 2; d <= 4096; d++ {
		if !p.known[p.mark+uint32(d)] {
			continue
		}
		from := d
		for p.known[p.mark+uint32(d)+1] {
			d++
		}
		if len(c.Gaps) < 32 {
			c.Gaps = append(c.Gaps, api.Gap{From: uint16(from), To: uint16(d)})
		}
	}
	return c
}

// run both intakes side by side.
func TestAgainstPlain(t *testing.T) {
	for seed := range int64(300) {
		r := rand.New(rand.NewSource(seed))
		inter := seed%2 == 0
		mark := r.Uint32()
		if seed%3 == 0 {
			mark = math.MaxUint32 - uint32(r.Intn(300))
		}
		n := New(mark, inter)
		p := &plain{inter: inter, mark: mark, known: map[uint32]bool{}, joiner: join.New(inter)}
		for step := range 400 {
			if !sameStep(t, r, n, p, []int{3, 3000, 40000}[seed%3]) {
				t.Fatalf("seed %d, step %d", seed, step)
			}
		}
	}
}

// sameStep: one call upon both intakes, with bodies up to a size, and what they tell then.
func sameStep(t *testing.T, r *rand.Rand, n *Intake, p *plain, size int) bool {
	t.Helper()
	var got, want any
	switch r.Intn(60) {
	case 0, 1, 2:
		c := forward(p.inter == (r.Intn(8) > 0), near(r, p.mark))
		if d := c.Tsn - p.mark; d > 1<<20 && d < 1<<31 { // the plain one goes step by step
			c.Tsn = p.mark + 1 + d%5000
		}
		for range r.Intn(3) {
			c.Skips = append(c.Skips, api.Skip{Stream: uint16(r.Intn(3)), Loose: r.Intn(3) == 0, Mid: uint32(r.Intn(30))})
		}
		got, want = n.Forward(c), p.forward(c)
	case 3:
		streams := make([]uint16, r.Intn(3))
		for i := range streams {
			streams[i] = uint16(r.Intn(3))
		}
		n.Reset(streams...)
		p.joiner.Reset(streams...)
	case 4, 5, 6, 7:
		got, want = fmt.Sprint(n.Sack()), fmt.Sprint(p.sack())
	case 8, 9, 10, 11, 12, 13:
		a, ok := n.Take()
		b, ok2 := p.joiner.Take()
		if !same(a, b) || ok != ok2 {
			t.Errorf("Take = %d bytes, %v, want %d, %v, or other fields", len(a.Body), ok, len(b.Body), ok2)
			return false
		}
	default:
		c := anyPiece(r, p.inter, near(r, p.mark), size)
		got, want = n.Data(c), p.data(c)
	}
	if got != want || n.Mark() != p.mark {
		t.Errorf("answered %.300v, mark %d, want %.300v, %d", got, n.Mark(), want, p.mark)
		return false
	}
	return true
}

func same(a, b api.Message) bool {
	return a.Stream == b.Stream && a.Loose == b.Loose && a.Mid == b.Mid && a.Ppid == b.Ppid && bytes.Equal(a.Body, b.Body)
}

// near a mark, in most cases.
func near(r *rand.Rand, mark uint32) uint32 {
	switch r.Intn(20) {
	case 0:
		return r.Uint32()
	case 1:
		return mark + 4094 + uint32(r.Intn(6))
	case 2:
		return mark + 1<<31 - 3 + uint32(r.Intn(6))
	case 3, 4:
		return mark - uint32(r.Intn(20))
	case 5, 6:
		return mark + 1
	}
	return mark + uint32(r.Intn(200))
}

func anyPiece(r *rand.Rand, inter bool, tsn uint32, size int) api.Chunk {
	c := piece(inter == (r.Intn(30) > 0), tsn, "", uint16(r.Intn(3)), uint32(r.Intn(30)), "")
	c.Begin, c.End, c.Loose, c.Frag = r.Intn(3) > 0, r.Intn(3) > 0, r.Intn(3) == 0, uint32(r.Intn(3))
	if inter {
		c.Begin = c.Frag == 0
	}
	if r.Intn(30) > 0 {
		c.Body = bytes.Repeat([]byte{byte(r.Intn(256))}, 1+r.Intn(size))
	}
	return c
}

// sent fragments of some messages, in the order of their numbers from a mark on.
func sent(t *testing.T, r *rand.Rand, mark uint32, inter bool) ([]api.Chunk, []api.Message) {
	t.Helper()
	var cs []api.Chunk
	var ms []api.Message
	mids := map[[2]int]uint32{}
	for range 80 {
		m := api.Message{Stream: uint16(r.Intn(3)), Loose: r.Intn(3) == 0, Ppid: r.Uint32(), Body: make([]byte, 1+r.Intn(20000))}
		r.Read(m.Body)
		key := [2]int{int(m.Stream), 0}
		if m.Loose {
			key[1] = 1
		}
		m.Mid = mids[key]
		mids[key]++
		cut, err := frag.Cut(m, 1000, inter)
		if err != api.OK {
			t.Fatal(err)
		}
		for i := range cut {
			cut[i].Tsn = mark + 1 + uint32(len(cs)+i)
		}
		cs, ms = append(cs, cut...), append(ms, m)
	}
	return cs, ms
}

// missing fragments, as a Sack tells of them.
func missing(cs []api.Chunk, first uint32, s api.Chunk) []api.Chunk {
	var out []api.Chunk
	for _, c := range cs[s.Tsn-first+1:] {
		d := c.Tsn - s.Tsn
		if !slices.ContainsFunc(s.Gaps, func(g api.Gap) bool { return uint32(g.From) <= d && d <= uint32(g.To) }) {
			out = append(out, c)
		}
	}
	return out
}

// Over a pipe that loses, doubles and mixes, to a reader that reads seldom: each message comes once, the ordered ones in order.
func TestThroughThePipe(t *testing.T) {
	for seed := range int64(20) {
		r := rand.New(rand.NewSource(seed))
		inter := seed%2 == 0
		mark := marks[seed%int64(len(marks))]
		cs, ms := sent(t, r, mark, inter)
		n := New(mark, inter)
		var got []api.Message
		for round := 0; len(got) < len(ms); round++ {
			if round > 1000 {
				t.Fatalf("seed %d: only %d of %d messages came", seed, len(got), len(ms))
			}
			way := missing(cs, mark+1, n.Sack())
			way = way[:min(len(way), 1+r.Intn(300))]
			r.Shuffle(len(way), func(i, k int) { way[i], way[k] = way[k], way[i] })
			for _, c := range way {
				for range r.Intn(3) {
					n.Data(c)
				}
			}
			for r.Intn(20) > 0 {
				m, ok := n.Take()
				if !ok {
					break
				}
				got = append(got, m)
			}
		}
		sameMessages(t, got, ms)
		takes(t, n)
		n.Sack() // with what came twice
		tells(t, n, mark+uint32(len(cs)), 0, nil, nil)
	}
}

// sameMessages, in order but for the loose ones?
func sameMessages(t *testing.T, got, want []api.Message) {
	t.Helper()
	for stream := range uint16(3) {
		for _, loose := range []bool{true, false} {
			other := func(m api.Message) bool { return m.Stream != stream || m.Loose != loose }
			a, b := slices.DeleteFunc(slices.Clone(got), other), slices.DeleteFunc(slices.Clone(want), other)
			if loose {
				byBody := func(a, b api.Message) int { return bytes.Compare(a.Body, b.Body) }
				slices.SortFunc(a, byBody)
				slices.SortFunc(b, byBody)
			}
			if !slices.EqualFunc(a, b, same) {
				t.Errorf("stream %d, loose %v: %d messages came, %d were sent, or others", stream, loose, len(a), len(b))
			}
		}
	}
}
